import PyProof.Rows.All
import Wide.All
import OpenK.AllK
import Wide.FinOn
import Lean
import PyProof.EqAt
import PyProof.EqKinds
import PyProof.TupleCall
import PyProof.ExcArgsOwn
import KE.KTryMore
import PyProof.NsDelKeeps
import PyProof.ConsumeWalk
import PyProof.ZipIter
import PyProof.WalksEnum
import PyProof.EnumMake
import PyProof.NeKinds
import PyProof.DictWalks
import PyProof.AttrMissHeap
import KE.KDictOf
import PyProof.CompMap
import KE.KRevIter
import PyProof.ListRange
import KE.KIntText
import PyProof.StrWalks
import PySem.Challenge.RW_oneleash_k62_book_of_lines
section
set_option Elab.async false
set_option linter.all false
set_option maxRecDepth 100000
namespace L2
open PySem PySem.Spec PyProof.Rows
abbrev Key := Sum Int Str
def keyIs : Key → Value → Bool
  | .inl k,v => Value.isInt k v
  | .inr x,v => Value.isStrOf x v
def keyH (w : World) : Key → Int
  | .inl k => hashInt k
  | .inr x => hashStr w x
theorem keyIs_shape : ∀ {k : Key} {v : Value},keyIs k v = true → (∃ i t,k = Sum.inl i ∧ v = Value.int i t) ∨ (∃ x t,k = Sum.inr x ∧ v = Value.str x t)
  | .inl i,v,h => by
    obtain ⟨t,e⟩ := Value.isInt_shape (k := i) (v := v) h
    exact .inl ⟨i,t,rfl,e⟩
  | .inr x,v,h => by
    obtain ⟨t,e⟩ := Value.isStrOf_shape (x := x) (v := v) h
    exact .inr ⟨x,t,rfl,e⟩
theorem key_ll (a b : Int) : decide ((Sum.inl a : Key) = Sum.inl b) = (a == b) := by
  by_cases e : a = b
  · subst e; simp
  · have h : ¬ (Sum.inl a : Key) = Sum.inl b := fun q => e (Sum.inl.inj q)
    rw [decide_eq_false h]
    exact (beq_eq_false_iff_ne.mpr e).symm
theorem key_rr (a b : Str) : decide ((Sum.inr a : Key) = Sum.inr b) = decide (a = b) := by
  by_cases e : a = b
  · subst e; simp
  · have h : ¬ (Sum.inr a : Key) = Sum.inr b := fun q => e (Sum.inr.inj q)
    rw [decide_eq_false h,decide_eq_false e]
theorem key_lr (a : Int) (b : Str) : decide ((Sum.inl a : Key) = Sum.inr b) = false := decide_eq_false (fun q => nomatch q)
theorem key_rl (a : Str) (b : Int) : decide ((Sum.inr a : Key) = Sum.inl b) = false := decide_eq_false (fun q => nomatch q)
def mixKind (prog : Program) (w : World) : PySem.KeyKind prog w Key where
  is := keyIs
  hash := keyH w
  inj := fun v a b ha hb => by
    rcases keyIs_shape ha with ⟨i,t,rfl,rfl⟩ | ⟨x,t,rfl,rfl⟩
    · rcases keyIs_shape hb with ⟨j,u,rfl,e⟩ | ⟨y,u,rfl,e⟩
      · injection e with e1 _; rw [e1]
      · exact nomatch e
    · rcases keyIs_shape hb with ⟨j,u,rfl,e⟩ | ⟨y,u,rfl,e⟩
      · exact nomatch e
      · injection e with e1 _; rw [e1]
  byValue := fun k v h => by
    rcases keyIs_shape h with ⟨i,t,rfl,rfl⟩ | ⟨x,t,rfl,rfl⟩ <;> rfl
  pyHash := fun hv h => by
    rcases keyIs_shape hv with ⟨i,t,rfl,rfl⟩ | ⟨x,t,rfl,rfl⟩
    · exact wpAny_pyHash_int h
    · exact wpAny_pyHash_str h
  eqBool := fun hu hv h => by
    rcases keyIs_shape hu with ⟨i,t,rfl,rfl⟩ | ⟨x,t,rfl,rfl⟩
    · rcases keyIs_shape hv with ⟨j,u,rfl,rfl⟩ | ⟨y,u,rfl,rfl⟩
      · rw [key_ll] at h; exact wpAny_eqBool_int h
      · rw [key_lr] at h; exact SeqAt.EqAt.int_str i t y u _ _ _ _ h
    · rcases keyIs_shape hv with ⟨j,u,rfl,rfl⟩ | ⟨y,u,rfl,rfl⟩
      · rw [key_rl] at h; exact SeqAt.EqAt.str_int x t j u _ _ _ _ h
      · rw [key_rr] at h; exact wpAny_eqBool_str h
  «strs» := fun k x t v h => by
    rcases keyIs_shape h with ⟨i,u,rfl,e⟩ | ⟨y,u,rfl,e⟩
    · exact nomatch e
    · injection e with e1 _
      subst e1
      cases v <;> rfl
end L2
namespace L2
open PySem PySem.Spec PyProof.Rows
inductive V where
  | non | bl (b : Bool) | int (i : Int) | str (x : Str) | byt (b : Array UInt8) | flt (b : UInt64) | ref (a : Addr) | ty (n : String)
  deriving DecidableEq
def RelV : V → Value → Prop
  | .non,u => u = Value.none
  | .bl b,u => u = Value.bool b
  | .int i,u => ∃ t,u = Value.int i t
  | .str x,u => ∃ t,u = Value.str x t
  | .byt b,u => ∃ t,u = Value.bytes b t
  | .flt b,u => ∃ t,u = Value.float b t
  | .ref a,u => u = Value.ref a
  | .ty n,u => u = Value.type n
abbrev Vals : List V → List Value → Prop := Paired RelV
theorem Vals.length {xs : List V} {us : List Value} (r : Vals xs us) : xs.length = us.length := Paired.length r
theorem Vals.get : ∀ {xs : List V} {us : List Value} {i : Nat} {x : V},Vals xs us → xs[i]? = some x → ∃ u,us[i]? = some u ∧ RelV x u
  | _,_,_,_,.nil,e => by simp at e
  | _,_,0,_,.cons r _,e => by simp at e; subst e; exact ⟨_,rfl,r⟩
  | _,_,i + 1,x,.cons _ t,e => by
    obtain ⟨u,h1,h2⟩ := Vals.get (i := i) (x := x) t (by simpa using e)
    exact ⟨u,by simpa using h1,h2⟩
theorem Vals.set {x : V} {u : Value} (r : RelV x u) : ∀ {xs : List V} {us : List Value} (i : Nat),Vals xs us → Vals (xs.set i x) (us.set i u)
  | _,_,_,.nil => .nil
  | _,_,0,.cons _ t => .cons r t
  | _,_,i + 1,.cons q t => .cons q (Vals.set r i t)
theorem Vals.append : ∀ {xs ys : List V} {us ws : List Value},Vals xs us → Vals ys ws → Vals (xs ++ ys) (us ++ ws)
  | _,_,_,_,.nil,s => s
  | _,_,_,_,.cons r t,s => .cons r (Vals.append t s)
theorem Vals.take : ∀ {xs : List V} {us : List Value} (n : Nat),Vals xs us → Vals (xs.take n) (us.take n)
  | _,_,0,_ => .nil
  | _,_,_ + 1,.nil => .nil
  | _,_,n + 1,.cons r t => .cons r (Vals.take n t)
theorem Vals.drop : ∀ {xs : List V} {us : List Value} (n : Nat),Vals xs us → Vals (xs.drop n) (us.drop n)
  | _,_,0,r => r
  | _,_,_ + 1,.nil => .nil
  | _,_,n + 1,.cons _ t => Vals.drop n t
def RelO : Option V → Option Value → Prop
  | some v,some u => RelV v u
  | none,none => True
  | _,_ => False
def KV {κ : Type} : List (κ × V) → List (κ × Value) → Prop := Paired fun (p : κ × V) (q : κ × Value) => p.1 = q.1 ∧ RelV p.2 q.2
def kV : Key → V
  | .inl i => .int i
  | .inr x => .str x
inductive HO where
  /-- a list -/
  | lst (xs : List V)
  /-- a tuple (never changes) -/
  | tup (xs : List V)
  /-- a dict whose keys are ints and texts; one whose keys are tuples of ints and texts (the empty one is both) -/
  | dK (kvs : List (Key × V)) | dT (kvs : List (List Key × V))
  /-- a set of ints: its members,its size -/
  | set (S : Int → Bool) (n : Nat)
  /-- an instance of the class at C,its dict at dx,its attributes -/
  | ins (C dx : Addr) (fs : List (Str × V))
  /-- the dict of the instance at x -/
  | own (x : Addr)
  /-- the dict of an exception -/
  | xd (fs : List (Str × V))
  /-- a bound method,f of x -/
  | met (f x : Addr)
  /-- a range object lo,lo + 1,.. below hi -/
  | rng (lo hi : Int)
  /-- a thing that is known to the object (the script; a dict while a loop walks it): read,never written while it is so -/
  | frz (o : Obj) (u : HO)
  /-- a code object's table -/
  | tbl (ps : Array Value)
  /-- any other thing,by what is true of its one object (a def of one's own: SetO a S n := HO.ext fun h => ..) -/
  | ext (φ : Heap → Prop)
abbrev Hp := Addr → Option HO
def upd (H : Hp) (a : Addr) (o : HO) : Hp := fun b => if b = a then some o else H b
theorem upd_same {H : Hp} {a : Addr} {o : HO} : upd H a o a = some o := by unfold upd; rw [if_pos rfl]
theorem upd_ne {H : Hp} {a b : Addr} {o : HO} (h : b ≠ a) : upd H a o b = H b := by unfold upd; rw [if_neg h]
theorem ne_of {H : Hp} {a b : Addr} {o u : HO} (h : H a = some o) (h' : H b = some u) (d : o ≠ u) : a ≠ b := by
  intro e; subst e; rw [h] at h'; exact d (Option.some.inj h')
theorem ne_of_none {H : Hp} {a b : Addr} {o : HO} (h : H a = some o) (h' : H b = none) : a ≠ b := by
  intro e; subst e; rw [h] at h'; cases h'
section
variable (P : Program) (w : World)
def ObjOk (H : Hp) (h : Heap) (a : Addr) : HO → Prop
  | .lst xs => xs.length ≤ sizeLine ∧ ∃ (its : List Value) (n : Nat),Vals xs its ∧ h.get? a = some { cls := .type "list",data := .seq its.toArray n }
  | .tup xs => xs.length ≤ sizeLine ∧ ∃ its : List Value,Vals xs its ∧ IsTup h a its.toArray
  | .dK kvs => kvs.length ≤ sizeLine ∧ (a == sysModules) = false ∧ ∃ vs,KV kvs vs ∧ h.DictOf (mixKind P w) a vs
  | .dT kvs => kvs.length ≤ sizeLine ∧ (a == sysModules) = false ∧ ∃ xs : List (List Key × Addr × Value),
      Paired (fun (p : List Key × V) (q : List Key × Addr × Value) => p.1 = q.1 ∧ H q.2.1 = some (.tup (p.1.map kV)) ∧ RelV p.2 q.2.2) kvs xs ∧
      ∃ o es ep,h.get? a = some o ∧ o.ExactDict ∧ o.data = .dict es ep ∧ es.toList = xs.map (entryOfKey (tupleKind (mixKind P w))) ∧ (xs.map (·.1)).Nodup
  | .set S n => h.SetOf (intKind P w) a S n
  | .ins C dx fs => H dx = some (.own a) ∧ fs.length ≤ 1000 ∧ dx ≠ a ∧ h.get? a = some (PySem.W.instObj C dx) ∧
      ∃ mA,h.Ns1 dx mA ∧ (∀ f,RelO (fs.lookup f) (mA f)) ∧ PySem.Within mA (fs.map (·.1))
  | .own _ => ∃ o,h.get? a = some o
  | .xd fs => ∃ mA,h.Ns1 a mA ∧ ∀ f,RelO (fs.lookup f) (mA f)
  | .rng lo hi => ∃ t u v,h.get? a = some { cls := .type "range",data := .fields #[.int lo t,.int hi u,.int 1 v] }
  | .frz o u => h.get? a = some o ∧ ObjOk H h a u
  | .tbl ps => h.get? a = some { cls := .none,data := .fields ps }
  | .met f x => h.get? a = some (PySem.W.methodObj (.ref f) (.ref x))
  | .ext φ => φ h ∧ (∃ o,h.get? a = some o) ∧ ∀ h1 h2 : Heap,φ h1 → (∀ o,h1.get? a = some o → h2.get? a = some o) → φ h2
def HOk (H : Hp) (h : Heap) : Prop := ∀ a o,H a = some o → ObjOk P w H h a o
end
section
variable {P : Program} {w : World} {H H' : Hp} {h h' : Heap} {a : Addr} {o : HO}
theorem ObjOk.lt (x : ObjOk P w H h a o) : a < h.objs.size := by
  cases o with
  | lst xs => obtain ⟨_,_,_,_,e⟩ := x; exact Heap.lt_size e
  | tup xs => obtain ⟨_,_,_,p⟩ := x; exact p.lt
  | dK kvs => obtain ⟨_,_,_,_,o,_,_,e,_⟩ := x; exact Heap.lt_size e
  | dT kvs => obtain ⟨_,_,_,_,o,_,_,e,_⟩ := x; exact Heap.lt_size e
  | set S n => obtain ⟨o,_,_,_,e,_⟩ := x; exact Heap.lt_size e
  | ins C dx fs => obtain ⟨_,_,_,e,_⟩ := x; exact Heap.lt_size e
  | own y => obtain ⟨_,e⟩ := x; exact Heap.lt_size e
  | xd fs => obtain ⟨_,⟨_,_,_,e,_⟩,_⟩ := x; exact Heap.lt_size e
  | rng lo hi => obtain ⟨_,_,_,e⟩ := x; exact Heap.lt_size e
  | frz ob u => obtain ⟨e,_⟩ := x; exact Heap.lt_size e
  | tbl ps => exact Heap.lt_size (show h.get? a = some _ from x)
  | met f y => exact Heap.lt_size (show h.get? a = some _ from x)
  | ext φ => obtain ⟨_,⟨_,e⟩,_⟩ := x; exact Heap.lt_size e
theorem Paired.mapP {α β : Type} {F G : α → β → Prop} : ∀ {l₁ : List α} {l₂ : List β},Paired F l₁ l₂ → (∀ a b,F a b → G a b) → Paired G l₁ l₂
  | _,_,.nil,_ => .nil
  | _,_,.cons r t,f => .cons (f _ _ r) (Paired.mapP t f)
theorem ObjOk.stay (x : ObjOk P w H h a o) (k : ∀ b u,(b = a ∨ H b = some (.own a)) → h.get? b = some u → h'.get? b = some u)
    (ho : ∀ b,H b = some (.own a) → H' b = some (.own a)) (ht : ∀ b xs,H b = some (.tup xs) → H' b = some (.tup xs)) : ObjOk P w H' h' a o := by
  induction o with
  | lst xs => obtain ⟨z,its,n,r,e⟩ := x; exact ⟨z,its,n,r,k _ _ (.inl rfl) e⟩
  | tup xs => obtain ⟨z,its,r,ob,e,c⟩ := x; exact ⟨z,its,r,ob,k _ _ (.inl rfl) e,c⟩
  | dK kvs => obtain ⟨z,y,vs,r,ob,es,ep,e,c⟩ := x; exact ⟨z,y,vs,r,ob,es,ep,k _ _ (.inl rfl) e,c⟩
  | dT kvs =>
    obtain ⟨z,y,xs,r,ob,es,ep,e,c⟩ := x
    exact ⟨z,y,xs,Paired.mapP r fun p q z => ⟨z.1,ht _ _ z.2.1,z.2.2⟩,ob,es,ep,k _ _ (.inl rfl) e,c⟩
  | set S n => obtain ⟨ob,es,ep,t,e,c⟩ := x; exact ⟨ob,es,ep,t,k _ _ (.inl rfl) e,c⟩
  | ins C dx fs =>
    obtain ⟨d,z,ne,e,mA,⟨od,es,ep,e2,c⟩,r⟩ := x
    exact ⟨ho _ d,z,ne,k _ _ (.inl rfl) e,mA,⟨od,es,ep,k _ _ (.inr d) e2,c⟩,r⟩
  | own y => obtain ⟨ob,e⟩ := x; exact ⟨ob,k _ _ (.inl rfl) e⟩
  | xd fs => obtain ⟨mA,⟨od,es,ep,e,c⟩,r⟩ := x; exact ⟨mA,⟨od,es,ep,k _ _ (.inl rfl) e,c⟩,r⟩
  | rng lo hi => obtain ⟨t,u,v,e⟩ := x; exact ⟨t,u,v,k _ _ (.inl rfl) e⟩
  | frz ob u ih => obtain ⟨e,q⟩ := x; exact ⟨k _ _ (.inl rfl) e,ih q⟩
  | tbl ps =>
    have e : h.get? a = some { cls := .none,data := .fields ps } := x
    show h'.get? a = some { cls := .none,data := .fields ps }
    exact k a _ (.inl rfl) e
  | met f y =>
    have e : h.get? a = some (PySem.W.methodObj (.ref f) (.ref y)) := x
    show h'.get? a = some (PySem.W.methodObj (.ref f) (.ref y))
    exact k a _ (.inl rfl) e
  | ext φ => obtain ⟨p,⟨o,e⟩,st⟩ := x; exact ⟨st _ _ p fun o q => k _ _ (.inl rfl) q,⟨o,k _ _ (.inl rfl) e⟩,st⟩
theorem HOk.lt (x : HOk P w H h) (e : H a = some o) : a < h.objs.size := (x a o e).lt
theorem HOk.fresh (x : HOk P w H h) (e : h.objs.size ≤ a) : H a = none := by
  cases q : H a with
  | none => rfl
  | some u => exact absurd (Nat.lt_of_lt_of_le (x.lt q) e) (Nat.lt_irrefl _)
theorem HOk.kept (x : HOk P w H h) (k : ∀ b u,h.get? b = some u → h'.get? b = some u) : HOk P w H h' := fun a o e =>
  (x a o e).stay (fun b u _ q => k b u q) (fun _ q => q) fun _ _ q => q
theorem HOk.laid (x : HOk P w H h) (k : ∀ b u,h.get? b = some u → h'.get? b = some u) (hp : h.objs.size ≤ a) (new : ObjOk P w (upd H a o) h' a o) : HOk P w (upd H a o) h' := fun b u e => by
  have hn := x.fresh hp
  by_cases hb : b = a
  · subst hb; rw [upd_same] at e; cases e; exact new
  · rw [upd_ne hb] at e
    exact (x b u e).stay (fun c v _ q => k c v q) (fun c q => by rw [upd_ne (ne_of_none q hn)]; exact q) fun c xs q => by rw [upd_ne (ne_of_none q hn)]; exact q
end
def Rd (H : Hp) (a : Addr) (u : HO) : Prop := H a = some u ∨ ∃ o,H a = some (.frz o u)
theorem Rd.ok {P : Program} {w : World} {H : Hp} {h : Heap} {a : Addr} {u : HO} (r : Rd H a u) (x : HOk P w H h) : ObjOk P w H h a u := by
  rcases r with r | ⟨o,r⟩
  · exact x a u r
  · obtain ⟨_,q⟩ := x a _ r
    exact q
def Mut : Option HO → Prop
  | some (.lst _) => True
  | some (.dK _) => True
  | some (.dT _) => True
  | some (.set _ _) => True
  | some (.ins _ _ _) => True
  | some (.ext _) => True
  | _ => False
section
variable {P : Program} {w : World} {H : Hp} {h h' : Heap} {x e : Addr} {o' : HO}
theorem HOk.write (ok : HOk P w H h) (mu : Mut (H x)) (he : e = x ∨ H e = some (.own x)) (k : ∀ b u,b ≠ e → h.get? b = some u → h'.get? b = some u) (heo : ∃ u,h'.get? e = some u)
    (new : ObjOk P w (upd H x o') h' x o') : HOk P w (upd H x o') h' := fun b u q => by
  have nown : ∀ c y,H c = some (.own y) → c ≠ x := fun c y r z => by subst z; rw [r] at mu; exact mu
  have ntup : ∀ c xs,H c = some (.tup xs) → c ≠ x := fun c xs r z => by subst z; rw [r] at mu; exact mu
  by_cases hb : b = x
  · subst hb; rw [upd_same] at q; cases q; exact new
  · rw [upd_ne hb] at q
    by_cases hbe : b = e
    · have q' : H b = some (.own x) := by
        rcases he with z | z
        · exact absurd (hbe.trans z) hb
        · rw [hbe]; exact z
      rw [q] at q'; cases q'
      obtain ⟨v,hv⟩ := heo
      exact ⟨v,by rw [hbe]; exact hv⟩
    · refine (ok b u q).stay (fun c v hc r => k c v ?_ r) (fun c r => by rw [upd_ne (nown c b r)]; exact r) fun c xs r => by rw [upd_ne (ntup c xs r)]; exact r
      rcases hc with rfl | hc
      · exact hbe
      · rintro rfl
        rcases he with z | z
        · exact nown c b hc z
        · rw [hc] at z; cases z; exact hb rfl
end
structure Un (fs ex : List Addr) (H H' : Hp) (h h' : Heap) : Prop where
  keep : ∀ b o,h.get? b = some o → H b = none → b ∉ fs → b ∉ ex → h'.get? b = some o
  slot : ∀ b o,h.get? b = some o → H b = none → b ∈ fs → b ∉ ex → ∃ sl,h'.get? b = some { o with slots := sl }
  free : ∀ b o,h.get? b = some o → H b = none → b ∉ ex → H' b = none
  there : ∀ b o,h.get? b = some o → b ∉ ex → ∃ o',h'.get? b = some o'
  tups : ∀ b xs,H b = some (.tup xs) → H' b = some (.tup xs)
  frzs : ∀ b o u,H b = some (.frz o u) → H' b = some (.frz o u)
  tbls : ∀ b ps,H b = some (.tbl ps) → ∃ more,H' b = some (.tbl (ps ++ more))
section
variable {fs fs' ex ex' : List Addr} {H H1 H2 : Hp} {h h1 h2 h' : Heap} {a x e : Addr} {o : HO}
theorem Un.any (u : Un fs ex H H1 h h1) {b : Addr} {ob : Obj} (q : h.get? b = some ob) (n : H b = none) (hx : b ∉ ex) : ∃ sl,h1.get? b = some { ob with slots := sl } := by
  by_cases hb : b ∈ fs
  · exact u.slot b ob q n hb hx
  · exact ⟨ob.slots,u.keep b ob q n hb hx⟩
theorem Un.kept (k : ∀ b u,h.get? b = some u → h'.get? b = some u) : Un fs ex H H h h' :=
  ⟨fun b ob q _ _ _ => k b ob q,fun b ob q _ _ _ => ⟨ob.slots,k b ob q⟩,fun _ _ _ n _ => n,fun b ob q _ => ⟨ob,k b ob q⟩,fun _ _ q => q,fun _ _ _ q => q,fun _ ps q => ⟨#[],by rw [q]; simp⟩⟩
theorem Un.refl : Un fs ex H H h h := Un.kept fun _ _ q => q
theorem Un.laid (k : ∀ b u,h.get? b = some u → h'.get? b = some u) (hp : h.objs.size ≤ a) (hn : H a = none) : Un fs ex H (upd H a o) h h' where
  keep := fun b u q _ _ _ => k b u q
  slot := fun b u q _ _ _ => ⟨u.slots,k b u q⟩
  free := fun b u q n _ => by rw [upd_ne (Nat.ne_of_lt (Nat.lt_of_lt_of_le (Heap.lt_size q) hp))]; exact n
  there := fun b u q _ => ⟨u,k b u q⟩
  tups := fun b xs q => by rw [upd_ne (ne_of_none q hn)]; exact q
  frzs := fun b u xs q => by rw [upd_ne (ne_of_none q hn)]; exact q
  tbls := fun b ps q => ⟨#[],by rw [upd_ne (ne_of_none q hn),q]; simp⟩
theorem Un.write (mu : Mut (H x)) (he : e = x ∨ H e = some (.own x)) (k : ∀ b u,b ≠ e → h.get? b = some u → h'.get? b = some u) (heo : ∃ u,h'.get? e = some u) : Un fs ex H (upd H x o) h h' := by
  have hx : ∀ b,H b = none → b ≠ x := fun b n z => by subst z; rw [n] at mu; exact mu
  have hb : ∀ b,H b = none → b ≠ e := fun b n z => by
    subst z
    rcases he with r | r
    · exact hx b n r
    · rw [n] at r; cases r
  have hm : ∀ b u,H b = some u → ¬ Mut (some u) → b ≠ x := fun b u q nm z => by subst z; rw [q] at mu; exact nm mu
  refine ⟨fun b u q n _ _ => k b u (hb b n) q,fun b u q n _ _ => ⟨u.slots,k b u (hb b n) q⟩,fun b u q n _ => by rw [upd_ne (hx b n)]; exact n,fun b u q _ => ?_,
    fun b xs q => by rw [upd_ne (hm b _ q fun z => z)]; exact q,fun b u xs q => by rw [upd_ne (hm b _ q fun z => z)]; exact q,fun b ps q => ⟨#[],by rw [upd_ne (hm b _ q fun z => z),q]; simp⟩⟩
  by_cases hbe : b = e
  · subst hbe; exact heo
  · exact ⟨u,k b u hbe q⟩
end
def trk (h : Heap) (H : Hp) : List Addr := (List.range h.objs.size).filter fun a => (H a).isSome
def hidT (h : Heap) (H : Hp) : Heap := PySem.W.hideAll h (trk h H)
theorem hidT_size (h : Heap) (H : Hp) : (hidT h H).objs.size = h.objs.size := PySem.W.hideAll_size _ _
theorem hidT_get {h : Heap} {H : Hp} {b : Addr} {o : Obj} (e : h.get? b = some o) (n : H b = none) : (hidT h H).get? b = some o :=
  PySem.W.hideAll_get _ e fun hm => by
    have q : (H b).isSome = true := (List.mem_filter.mp hm).2
    rw [n] at q; simp at q
theorem of_hidT {h : Heap} {H : Hp} {b : Addr} {o : Obj} (e : (hidT h H).get? b = some o) : h.get? b = some o ∧ H b = none := by
  have e' : h.get? b = some o := PySem.W.of_hideAll (trk h H) e
  refine ⟨e',?_⟩
  cases q : H b with
  | none => rfl
  | some x =>
    have hm : b ∈ trk h H := List.mem_filter.mpr ⟨List.mem_range.mpr (Heap.lt_size e'),by simp [q]⟩
    have z : (hidT h H).get? b = none := PySem.W.hideAll_none (trk h H) hm
    rw [z] at e; cases e
end L2
namespace L2
open PySem PySem.Spec PyProof.Rows
structure Mod (K : PySem.W.Frag) (mg : Str → Option Value) (base : Heap) : Prop where
  kin : K.In base
  glob : base.Ns mainGlobals mg
  blt : ∃ mb,base.Ns builtinsNs mb ∧ ∀ x : Str,x ≠ "__name__" → mb x = bootBuiltins x
  nolimit : base.NoLimit
structure Cx where
  prog : Program
  w : World
  K : PySem.W.Frag
  mg : Str → Option Value
  base : Heap
  A : Around
  N : List Str
  s₀ : Shared
  H₀ : Hp
  env : Env
  outer : List Env
  stack : List Env
  ex : List Addr
  fn : Str → Bool
  calm : Bool
  pn : List (Addr × Obj)
  xe : Value → Shared → Prop
def frs (l : List Env) : List Addr := l.filterMap (·.frame)
abbrev Cx.fs (X : Cx) : List Addr := frs X.outer
def Vis (sc : Scope) (x : Str) : Prop := sc.names.lookup x = some .local ∨ sc.names.lookup x = some .cell ∨ sc.names.lookup x = some .free
def Loc (sc : Scope) (x : Str) : Prop := sc.names.lookup x = some .local ∨ sc.names.lookup x = some .cell
def Look (env : Env) (h : Heap) (m : Str → Option Value) (x : Str) (u : Value) : Prop :=
  (env.kindOf x = some .local ∧ m x = some u) ∨ ((env.kindOf x = some .cell ∨ env.kindOf x = some .free) ∧ ∃ c,env.cells.lookup x = some c ∧ h.IsCell c (some u))
structure Cx.Ok (X : Cx) : Prop where
  mod : Mod X.K X.mg X.base
  kind : X.env.scope.kind = .function
  glob : X.env.globals = mainGlobals
  blt : X.env.builtins = builtinsNs
  above : X.s₀.heap.objs.size ≤ X.env.locals
  inj : ∀ x y c,X.env.cells.lookup x = some c → X.env.cells.lookup y = some c → x = y
  has : ∀ x,(X.env.kindOf x = some .cell ∨ X.env.kindOf x = some .free) → ∃ c,X.env.cells.lookup x = some c
  cab : ∀ x c,X.fn x = true → X.env.cells.lookup x = some c → X.s₀.heap.objs.size ≤ c
  hd : X.calm = true → X.A.handled = none
  frames : X.A.frames = some X.stack
  stk : X.stack = X.outer ∨ (X.stack = X.env :: X.outer ∧ X.env.frame = some X.env.locals)
  exf : ∀ b ∈ X.ex,b ≠ X.env.locals ∧ ∀ x c,X.env.cells.lookup x = some c → c ≠ b
  bs : ∀ b o,X.base.get? b = some o → X.s₀.heap.get? b = some o ∧ X.H₀ b = none
  bsz : X.base.objs.size ≤ X.s₀.heap.objs.size
  noex : ∀ b o,X.base.get? b = some o → b ∉ X.ex
  exfs : ∀ b ∈ X.ex,b ∉ X.fs
  funs : X.s₀.heap.FunFrames X.base X.outer
  frf : ∀ b ∈ X.fs,X.H₀ b = none
structure Inv (X : Cx) (pins : List (Addr × Obj)) (σ : List (Option V)) (H : Hp) (s : Shared) : Prop where
  ok : X.Ok
  os : s.os = X.s₀.os
  bare : AllBare s.gens
  base : Un X.fs X.ex X.H₀ H X.s₀.heap s.heap
  loc : ∃ m,s.heap.Ns X.env.locals m ∧ ∀ (i : Nat) (x : Str) (v : V),X.N[i]? = some x → σ[i]? = some (some v) → Vis X.env.scope x → ∃ u,RelV v u ∧ Look X.env s.heap m x u
  cell : ∀ x c,X.env.cells.lookup x = some c → ∃ v,s.heap.IsCell c v
  free : H X.env.locals = none
  freeC : ∀ x c,X.env.cells.lookup x = some c → H c = none
  pin : ∀ p ∈ X.pn ++ pins,s.heap.get? p.1 = some p.2 ∧ H p.1 = none ∧ p.1 ≠ X.env.locals ∧ p.1 ∉ X.fs ∧ ∀ v,p.2.data ≠ .cell v
  hok : HOk X.prog X.w H s.heap
  len : σ.length = X.N.length
section
variable {X : Cx} {pins : List (Addr × Obj)} {σ : List (Option V)} {H H' : Hp} {s : Shared} {h' : Heap}
theorem Cx.Ok.nofr (ok : X.Ok) {b : Addr} {o : Obj} (e : X.base.get? b = some o) : b ∉ X.fs := fun hb => by
  have := (ok.funs.mem hb).1
  rw [e] at this; cases this
theorem Inv.bs (I : Inv X pins σ H s) : ∀ b o,X.base.get? b = some o → s.heap.get? b = some o ∧ H b = none := fun b o e =>
  ⟨I.base.keep b o (I.ok.bs b o e).1 (I.ok.bs b o e).2 (I.ok.nofr e) (I.ok.noex b o e),I.base.free b o (I.ok.bs b o e).1 (I.ok.bs b o e).2 (I.ok.noex b o e)⟩
theorem Inv.bk (I : Inv X pins σ H s) : ∀ b o,X.base.get? b = some o → s.heap.get? b = some o := fun b o e => (I.bs b o e).1
theorem Inv.mod (I : Inv X pins σ H s) : Mod X.K X.mg X.base := I.ok.mod
theorem Inv.kIn (I : Inv X pins σ H s) : X.K.In s.heap := I.ok.mod.kin.keeps I.bk
theorem Inv.lt (I : Inv X pins σ H s) : X.env.locals < s.heap.objs.size := let ⟨_,hn,_⟩ := I.loc; hn.lt
theorem Inv.sz (I : Inv X pins σ H s) : X.s₀.heap.objs.size ≤ s.heap.objs.size := Nat.le_trans I.ok.above (Nat.le_of_lt I.lt)
theorem Inv.nofs (I : Inv X pins σ H s) {a : Addr} (h : s.heap.objs.size ≤ a) : a ∉ X.fs := fun hb => by
  obtain ⟨_,o,ho,_⟩ := I.ok.funs.mem hb
  exact absurd (Nat.lt_of_lt_of_le (Heap.lt_size ho) (Nat.le_trans I.sz h)) (Nat.lt_irrefl _)
theorem Inv.cne (I : Inv X pins σ H s) : ∀ x c,X.env.cells.lookup x = some c → c ≠ X.env.locals := fun x c e z => by
  obtain ⟨v,o,ho,hd⟩ := I.cell x c e
  obtain ⟨m,⟨o',es,ep,ho',hd',_⟩,_⟩ := I.loc
  rw [z,ho'] at ho; cases ho; rw [hd'] at hd; cases hd
theorem Inv.funs (I : Inv X pins σ H s) : s.heap.FunFrames X.base X.outer := by
  have all : ∀ (l : List Env),(∀ b ∈ frs l,b ∈ X.fs) → X.s₀.heap.FunFrames X.base l → s.heap.FunFrames X.base l := by
    intro l
    induction l with
    | nil => intro _ _; trivial
    | cons env r ih =>
      intro hs hl
      obtain ⟨hk,⟨L,o,hf,hn,ho,hd⟩,hr⟩ := hl
      have hL : L ∈ X.fs := hs L (by unfold frs; rw [List.filterMap_cons,hf]; exact List.mem_cons_self)
      obtain ⟨sl,e⟩ := I.base.slot L o ho (I.ok.frf L hL) hL fun z => I.ok.exfs L z hL
      exact ⟨hk,⟨L,_,hf,hn,e,hd⟩,ih (fun b hb => hs b (by unfold frs; rw [List.filterMap_cons,hf]; exact List.mem_cons_of_mem _ hb)) hr⟩
  exact all X.outer (fun _ hb => hb) I.ok.funs
theorem Inv.stack (I : Inv X pins σ H s) : s.heap.FunFrames X.base X.stack := by
  rcases I.ok.stk with e | ⟨e,hf⟩
  · rw [e]; exact I.funs
  · rw [e]
    obtain ⟨m,hn,_⟩ := I.loc
    refine .cons (by rw [I.ok.kind]; decide) hf hn ?_ I.funs
    exact Heap.get?_none_of_le (Nat.le_trans I.ok.bsz I.ok.above)
theorem Inv.stkSub (I : Inv X pins σ H s) : ∀ b ∈ frs X.stack,b ∈ X.env.locals :: X.fs := fun b hb => by
  rcases I.ok.stk with e | ⟨e,hf⟩
  · rw [e] at hb; exact List.mem_cons_of_mem _ hb
  · rw [e] at hb
    unfold frs at hb
    rw [List.filterMap_cons,hf] at hb
    exact hb
theorem Inv.stkFree (I : Inv X pins σ H s) : ∀ b ∈ frs X.stack,H b = none := fun b hb => by
  rcases List.mem_cons.mp (I.stkSub b hb) with e | hb
  · rw [e]; exact I.free
  · obtain ⟨_,o,ho,_⟩ := I.ok.funs.mem hb
    exact I.base.free b o ho (I.ok.frf b hb) fun z => I.ok.exfs b z hb
theorem Inv.step {g' : Array GenState} {t' : Nat} {d' : Drawn} {ch : List Addr} (I : Inv X pins σ H s)
    (hch : ∀ b ∈ ch,(b ∈ X.ex ∨ X.s₀.heap.objs.size ≤ b) ∧ b ≠ X.env.locals ∧ (∀ x c,X.env.cells.lookup x = some c → c ≠ b) ∧ ∀ p ∈ X.pn ++ pins,p.1 ≠ b)
    (keep : ∀ b o,b ≠ X.env.locals → b ∉ X.fs → b ∉ ch → s.heap.get? b = some o → H b = none → h'.get? b = some o)
    (slot : ∀ b o,b ≠ X.env.locals → b ∈ X.fs → b ∉ ch → s.heap.get? b = some o → H b = none → ∃ sl,h'.get? b = some { o with slots := sl }) (free : ∀ b o,b ∉ ch → s.heap.get? b = some o → H b = none → H' b = none)
    (there : ∀ b o,b ∉ ch → s.heap.get? b = some o → ∃ o',h'.get? b = some o')
    (tups : ∀ b xs,H b = some (.tup xs) → H' b = some (.tup xs)) (frzs : ∀ b o u,H b = some (.frz o u) → H' b = some (.frz o u)) (tbls : ∀ b ps,H b = some (.tbl ps) → ∃ more,H' b = some (.tbl (ps ++ more)))
    (ns : ∀ m,s.heap.Ns X.env.locals m → h'.Ns X.env.locals m) (hok : HOk X.prog X.w H' h') (hg : AllBare g') :
    Inv X pins σ H' { s with heap := h',gens := g',drawn := d',toks := t' } := by
  have neL : ∀ b o,X.s₀.heap.get? b = some o → b ≠ X.env.locals := fun b o e => Nat.ne_of_lt (Nat.lt_of_lt_of_le (Heap.lt_size e) I.ok.above)
  have neC : ∀ b o,X.s₀.heap.get? b = some o → b ∉ X.ex → b ∉ ch := fun b o e hx hb => by
    rcases (hch b hb).1 with z | z
    · exact hx z
    · exact absurd (Nat.lt_of_lt_of_le (Heap.lt_size e) z) (Nat.lt_irrefl _)
  have cellK : ∀ x c,X.env.cells.lookup x = some c → ∀ v,s.heap.IsCell c v → h'.IsCell c v := fun x c e v ⟨o,ho,hd⟩ => by
    have nch : c ∉ ch := fun z => (hch c z).2.2.1 x c e rfl
    by_cases hc : c ∈ X.fs
    · obtain ⟨sl,q⟩ := slot c o (I.cne x c e) hc nch ho (I.freeC x c e)
      exact ⟨_,q,hd⟩
    · exact ⟨o,keep c o (I.cne x c e) hc nch ho (I.freeC x c e),hd⟩
  refine ⟨I.ok,I.os,hg,⟨fun b o e n hb hx => ?_,fun b o e n hb hx => ?_,fun b o e n hx => ?_,fun b o e hx => ?_,fun b xs e => tups b xs (I.base.tups b xs e),fun b o xs e => frzs b o xs (I.base.frzs b o xs e),fun b ps e => ?_⟩,?_,fun x c e => ?_,?_,fun x c e => ?_,fun p hp => ?_,hok,I.len⟩
  · exact keep b o (neL b o e) hb (neC b o e hx) (I.base.keep b o e n hb hx) (I.base.free b o e n hx)
  · obtain ⟨sl,e1⟩ := I.base.slot b o e n hb hx
    obtain ⟨sl',e2⟩ := slot b _ (neL b o e) hb (neC b o e hx) e1 (I.base.free b o e n hx)
    exact ⟨sl',e2⟩
  · obtain ⟨o',e1⟩ := I.base.there b o e hx
    exact free b o' (neC b o e hx) e1 (I.base.free b o e n hx)
  · obtain ⟨o',e1⟩ := I.base.there b o e hx
    exact there b o' (neC b o e hx) e1
  · obtain ⟨m1,e1⟩ := I.base.tbls b ps e
    obtain ⟨m2,e2⟩ := tbls b _ e1
    exact ⟨m1 ++ m2,by rw [e2,Array.append_assoc]⟩
  · obtain ⟨m,hn,hl⟩ := I.loc
    refine ⟨m,ns m hn,fun i x v e1 e2 e3 => ?_⟩
    obtain ⟨u,r,l⟩ := hl i x v e1 e2 e3
    refine ⟨u,r,?_⟩
    rcases l with l | ⟨k,c,e,z⟩
    · exact .inl l
    · exact .inr ⟨k,c,e,cellK x c e _ z⟩
  · obtain ⟨v,z⟩ := I.cell x c e
    exact ⟨v,cellK x c e v z⟩
  · obtain ⟨m,⟨o,_,_,ho,_⟩,_⟩ := I.loc
    exact free _ o (fun z => (hch _ z).2.1 rfl) ho I.free
  · obtain ⟨v,o,ho,hd⟩ := I.cell x c e
    exact free c o (fun z => (hch c z).2.2.1 x c e rfl) ho (I.freeC x c e)
  · obtain ⟨e,n,ne,nf,d⟩ := I.pin p hp
    have nch : p.1 ∉ ch := fun z => (hch p.1 z).2.2.2 p hp rfl
    exact ⟨keep p.1 p.2 ne nf nch e n,free p.1 p.2 nch e n,ne,nf,d⟩
theorem Inv.un {t' : Nat} (I : Inv X pins σ H s) (u : Un X.fs [] H H' s.heap h') (hok : HOk X.prog X.w H' h') : Inv X pins σ H' { s with heap := h',toks := t' } := by
  obtain ⟨m,⟨o,es,ep,ho,r⟩,_⟩ := id I.loc
  obtain ⟨sl,hL⟩ := u.any ho I.free (by simp)
  exact I.step (g' := s.gens) (d' := s.drawn) (ch := []) (fun _ z => nomatch z) (fun b o _ hb _ e n => u.keep b o e n hb (by simp)) (fun b o _ hb _ e n => u.slot b o e n hb (by simp)) (fun b o _ e n => u.free b o e n (by simp)) (fun b o _ e => u.there b o e (by simp)) u.tups u.frzs u.tbls (fun m' hm => by
    obtain ⟨o',es',ep',ho',r'⟩ := hm
    rw [ho] at ho'; cases ho'
    exact ⟨_,es',ep',hL,r'⟩) hok I.bare
theorem Inv.call {g' : Array GenState} {t' : Nat} {d' : Drawn} {ch : List Addr} (I : Inv X pins σ H s) (u : Un (frs X.stack) ch H H' s.heap h') (hok : HOk X.prog X.w H' h') (hg : AllBare g')
    (hch : ∀ b ∈ ch,(b ∈ X.ex ∨ X.s₀.heap.objs.size ≤ b) ∧ b ≠ X.env.locals ∧ (∀ x c,X.env.cells.lookup x = some c → c ≠ b) ∧ ∀ p ∈ X.pn ++ pins,p.1 ≠ b) :
    Inv X pins σ H' { s with heap := h',gens := g',drawn := d',toks := t' } := by
  obtain ⟨m,⟨o,es,ep,ho,r⟩,_⟩ := id I.loc
  obtain ⟨sl,hL⟩ := u.any ho I.free fun z => (hch _ z).2.1 rfl
  exact I.step (ch := ch) hch (fun b o hL hb hc e n => u.keep b o e n (fun z => (List.mem_cons.mp (I.stkSub b z)).elim hL hb) hc) (fun b o _ _ hc e n => u.any e n hc) (fun b o hc e n => u.free b o e n hc) (fun b o hc e => u.there b o e hc) u.tups u.frzs u.tbls (fun m' hm => by
    obtain ⟨o',es',ep',ho',r'⟩ := hm
    rw [ho] at ho'; cases ho'
    exact ⟨_,es',ep',hL,r'⟩) hok hg
theorem Inv.turned {t' : Nat} {it : Addr} (I : Inv X pins σ H s) (k : ∀ b o,b ≠ it → s.heap.get? b = some o → h'.get? b = some o) (hn : H it = none) (hL : it ≠ X.env.locals)
    (h1 : it ∈ X.ex ∨ X.s₀.heap.objs.size ≤ it) (h2 : ∀ x c,X.env.cells.lookup x = some c → c ≠ it) (h3 : ∀ p ∈ X.pn ++ pins,p.1 ≠ it) : Inv X pins σ H { s with heap := h',toks := t' } := by
  have nit : ∀ b u,H b = some u → b ≠ it := fun b u e z => by rw [z,hn] at e; cases e
  refine I.step (g' := s.gens) (d' := s.drawn) (ch := [it]) (fun b hb => ?_) (fun b o _ _ hc e _ => k b o (fun z => hc (by simp [z])) e) (fun b o _ _ hc e _ => ⟨o.slots,k b o (fun z => hc (by simp [z])) e⟩) (fun _ _ _ _ n => n)
    (fun b o hc e => ⟨o,k b o (fun z => hc (by simp [z])) e⟩) (fun _ _ e => e) (fun _ _ _ e => e) (fun b ps e => ⟨#[],by rw [e]; simp⟩) (fun m hm => ?_) (fun b u e => ?_) I.bare
  · have e : b = it := by simpa using hb
    subst e
    exact ⟨h1,hL,h2,h3⟩
  · obtain ⟨o,es,ep,ho,r⟩ := hm
    exact ⟨o,es,ep,k _ o (Ne.symm hL) ho,r⟩
  · refine (I.hok b u e).stay (fun c v hc q => k c v ?_ q) (fun _ q => q) fun _ _ q => q
    rcases hc with z | z
    · rw [z]; exact nit b u e
    · exact nit c _ z
theorem Inv.tok (I : Inv X pins σ H s) (t : Nat) : Inv X pins σ H { s with toks := t } := I.un (h' := s.heap) (t' := t) Un.refl I.hok
theorem Inv.kept {t' : Nat} (I : Inv X pins σ H s) (k : ∀ b u,s.heap.get? b = some u → h'.get? b = some u) : Inv X pins σ H { s with heap := h',toks := t' } := I.un (Un.kept k) (I.hok.kept k)
theorem Inv.laid {a : Addr} {o : HO} {t' : Nat} (I : Inv X pins σ H s) (k : ∀ b u,s.heap.get? b = some u → h'.get? b = some u) (hp : s.heap.objs.size ≤ a) (new : ObjOk X.prog X.w (upd H a o) h' a o) :
    Inv X pins σ (upd H a o) { s with heap := h',toks := t' } := I.un (Un.laid k hp (I.hok.fresh hp)) (I.hok.laid k hp new)
theorem Inv.write {x e : Addr} {o : HO} {t' : Nat} (I : Inv X pins σ H s) (mu : Mut (H x)) (he : e = x ∨ H e = some (.own x)) (k : ∀ b u,b ≠ e → s.heap.get? b = some u → h'.get? b = some u) (heo : ∃ u,h'.get? e = some u)
    (new : ObjOk X.prog X.w (upd H x o) h' x o) : Inv X pins σ (upd H x o) { s with heap := h',toks := t' } := I.un (Un.write mu he k heo) (I.hok.write mu he k heo new)
theorem Inv.pins_of {pins' : List (Addr × Obj)} (I : Inv X pins σ H s) (h : ∀ p ∈ pins',s.heap.get? p.1 = some p.2 ∧ H p.1 = none ∧ p.1 ≠ X.env.locals ∧ p.1 ∉ X.fs ∧ ∀ v,p.2.data ≠ .cell v) : Inv X pins' σ H s :=
  ⟨I.ok,I.os,I.bare,I.base,I.loc,I.cell,I.free,I.freeC,fun p hp => (List.mem_append.mp hp).elim (fun z => I.pin p (List.mem_append_left _ z)) (h p),I.hok,I.len⟩
theorem nodup_ix {N : List Str} (hN : N.Nodup) {i j : Nat} {x : Str} (a : N[i]? = some x) (b : N[j]? = some x) : i = j := by
  obtain ⟨h1,e1⟩ := List.getElem?_eq_some_iff.mp a
  obtain ⟨h2,e2⟩ := List.getElem?_eq_some_iff.mp b
  exact (List.getElem_inj hN).mp (e1.trans e2.symm)
theorem store_ok2 {M : Model} {A : Around} {E : Value → Shared → Prop} {i : Nat} {x : Str} {v : V} {u : Value} {Q : Unit → Shared → Prop} (I : Inv X pins σ H s) (hN : X.N.Nodup) (hi : X.N[i]? = some x) (hx : Loc X.env.scope x) (r : RelV v u)
    (h : ∀ s',Inv X pins (σ.set i (some v)) H s' → (∃ a,Heap.SameBut a s.heap s'.heap ∧ (a = X.env.locals ∨ X.env.cells.lookup x = some a)) → Q () s') (hf : X.fn x = true ∨ X.env.scope.names.lookup x = some .local := by first | exact .inl rfl | exact .inr rfl | assumption) : wpAny M A (storeName X.env x u) Q E s := by
  obtain ⟨m,hn,hl⟩ := id I.loc
  have hcls : (X.env.scope.kind == .class || (X.env.scope.kind == .module && X.env.locals != X.env.globals)) = false := by rw [I.ok.kind]; rfl
  have hiσ : i < σ.length := by rw [I.len]; exact (List.getElem?_eq_some_iff.mp hi).1
  have cne := I.cne
  have tracked : ∀ {a : Addr} {h' : Heap},(∃ o,s.heap.get? a = some o ∧ H a = none) → Heap.SameBut a s.heap h' → HOk X.prog X.w H h' := fun {a h'} ha hs b ob e => by
    obtain ⟨_,_,hfree⟩ := ha
    refine (I.hok b ob e).stay (fun c w' hc q => (hs.2 c ?_).trans q) (fun _ q => q) fun _ _ q => q
    rintro rfl
    rcases hc with rfl | hc
    · rw [hfree] at e; cases e
    · rw [hfree] at hc; cases hc
  rcases hx with hk | hk
  · refine wpAny_storeName_local hk hn (fun h' hn' hs => ?_) hcls
    obtain ⟨oL,_,_,hoL,_⟩ := id hn
    refine h _ ⟨I.ok,I.os,I.bare,⟨fun b o e n hb hx => ?_,fun b o e n hb hx => ?_,I.base.free,fun b o e hx => ?_,I.base.tups,I.base.frzs,I.base.tbls⟩,⟨_,hn',fun j y v' e1 e2 e3 => ?_⟩,fun y c e => ?_,I.free,I.freeC,fun p hp => ?_,tracked ⟨oL,hoL,I.free⟩ hs,by simpa using I.len⟩ ⟨_,hs,.inl rfl⟩
    · exact (hs.2 b (Nat.ne_of_lt (Nat.lt_of_lt_of_le (Heap.lt_size e) I.ok.above))).trans (I.base.keep b o e n hb hx)
    · obtain ⟨sl,e1⟩ := I.base.slot b o e n hb hx
      exact ⟨sl,(hs.2 b (Nat.ne_of_lt (Nat.lt_of_lt_of_le (Heap.lt_size e) I.ok.above))).trans e1⟩
    · obtain ⟨o',e1⟩ := I.base.there b o e hx
      exact ⟨o',(hs.2 b (Nat.ne_of_lt (Nat.lt_of_lt_of_le (Heap.lt_size e) I.ok.above))).trans e1⟩
    · by_cases hj : j = i
      · subst hj
        rw [hi] at e1; cases e1
        rw [List.getElem?_set_self hiσ] at e2
        cases e2
        exact ⟨u,r,.inl ⟨hk,by simp⟩⟩
      · rw [List.getElem?_set_ne (Ne.symm hj)] at e2
        obtain ⟨u',r',q⟩ := hl j y v' e1 e2 e3
        refine ⟨u',r',?_⟩
        rcases q with ⟨k,e⟩ | ⟨k,c,e,z⟩
        · refine .inl ⟨k,?_⟩
          have : y ≠ x := fun e => hj (nodup_ix hN e1 (e ▸ hi))
          simp [this,e]
        · exact .inr ⟨k,c,e,z.sameBut hs (cne y c e)⟩
    · obtain ⟨w',z⟩ := I.cell y c e
      exact ⟨w',z.sameBut hs (cne y c e)⟩
    · obtain ⟨e,n,ne,nf,d⟩ := I.pin p hp
      exact ⟨(hs.2 p.1 ne).trans e,n,ne,nf,d⟩
  · have hfn : X.fn x = true := by
      rcases hf with z | z
      · exact z
      · rw [z] at hk; cases hk
    obtain ⟨c,hc⟩ := I.ok.has x (.inl hk)
    obtain ⟨w',z⟩ := I.cell x c hc
    refine wpAny_storeName_cell I.ok.kind hk hc z (fun h' hc' hs => ?_)
    obtain ⟨oc,hoc,hocd⟩ := id z
    refine h { s with heap := h' } ⟨I.ok,I.os,I.bare,⟨fun b o e n hb hx => ?_,fun b o e n hb hx => ?_,I.base.free,fun b o e hx => ?_,I.base.tups,I.base.frzs,I.base.tbls⟩,⟨m,hn.sameBut hs (Ne.symm (cne x c hc)),fun j y v' e1 e2 e3 => ?_⟩,fun y c' e => ?_,I.free,I.freeC,fun p hp => ?_,tracked ⟨oc,hoc,I.freeC x c hc⟩ hs,by simpa using I.len⟩ ⟨c,hs,.inr hc⟩
    · exact (hs.2 b (Nat.ne_of_lt (Nat.lt_of_lt_of_le (Heap.lt_size e) (I.ok.cab x c hfn hc)))).trans (I.base.keep b o e n hb hx)
    · obtain ⟨sl,e1⟩ := I.base.slot b o e n hb hx
      exact ⟨sl,(hs.2 b (Nat.ne_of_lt (Nat.lt_of_lt_of_le (Heap.lt_size e) (I.ok.cab x c hfn hc)))).trans e1⟩
    · obtain ⟨o',e1⟩ := I.base.there b o e hx
      exact ⟨o',(hs.2 b (Nat.ne_of_lt (Nat.lt_of_lt_of_le (Heap.lt_size e) (I.ok.cab x c hfn hc)))).trans e1⟩
    · by_cases hj : j = i
      · subst hj
        rw [hi] at e1; cases e1
        rw [List.getElem?_set_self hiσ] at e2
        cases e2
        exact ⟨u,r,.inr ⟨.inl hk,c,hc,hc'⟩⟩
      · rw [List.getElem?_set_ne (Ne.symm hj)] at e2
        obtain ⟨u',r',q⟩ := hl j y v' e1 e2 e3
        refine ⟨u',r',?_⟩
        rcases q with q | ⟨k,c',e,z'⟩
        · exact .inl q
        · refine .inr ⟨k,c',e,z'.sameBut hs ?_⟩
          rintro rfl
          exact hj (nodup_ix hN e1 (I.ok.inj _ _ _ e hc ▸ hi))
    · by_cases hcc : c' = c
      · subst hcc; exact ⟨_,hc'⟩
      · obtain ⟨w2,z2⟩ := I.cell y c' e
        exact ⟨w2,z2.sameBut hs hcc⟩
    · obtain ⟨e,n,ne,nf,d⟩ := I.pin p hp
      refine ⟨(hs.2 p.1 ?_).trans e,n,ne,nf,d⟩
      intro q
      rw [q,hoc] at e
      have q' : oc = p.2 := Option.some.inj e
      exact d w' (by rw [← q']; exact hocd)
theorem store_ok {M : Model} {A : Around} {E : Value → Shared → Prop} {i : Nat} {x : Str} {v : V} {u : Value} {Q : Unit → Shared → Prop} (I : Inv X pins σ H s) (hN : X.N.Nodup) (hi : X.N[i]? = some x) (hx : Loc X.env.scope x) (r : RelV v u)
    (h : ∀ s',Inv X pins (σ.set i (some v)) H s' → Q () s') (hf : X.fn x = true ∨ X.env.scope.names.lookup x = some .local := by first | exact .inl rfl | exact .inr rfl | assumption) : wpAny M A (storeName X.env x u) Q E s :=
  store_ok2 I hN hi hx r (fun s' I' _ => h s' I') hf
theorem Inv.call' {s' : Shared} {ch : List Addr} (I : Inv X pins σ H s) (ho : s'.os = s.os) (u : Un (frs X.stack) ch H H' s.heap s'.heap) (hok : HOk X.prog X.w H' s'.heap) (hg : AllBare s'.gens)
    (hch : ∀ b ∈ ch,(b ∈ X.ex ∨ X.s₀.heap.objs.size ≤ b) ∧ b ≠ X.env.locals ∧ (∀ x c,X.env.cells.lookup x = some c → c ≠ b) ∧ ∀ p ∈ X.pn ++ pins,p.1 ≠ b) : Inv X pins σ H' s' := by
  obtain ⟨h',g',d',t',o'⟩ := s'
  have e : o' = s.os := ho
  subst e
  exact I.call (g' := g') (t' := t') (d' := d') u hok hg hch
end
abbrev XK := Value → Option Addr → Hp → Prop
abbrev St := List (Option V)
abbrev VK := V → Hp → Prop
abbrev TE := St → Hp → VK → Prop
abbrev TT := St → Hp → (Bool → Hp → Prop) → Prop
abbrev TA := St → Hp → (List V → Hp → Prop) → Prop
structure Ends where
  nx : St → Hp → Prop
  rt : VK
  bk : St → Hp → Prop := fun _ _ => False
  ct : St → Hp → Prop := fun _ _ => False
abbrev TS := Ends → St → Hp → Prop
def EP (X : Cx) (pins : List (Addr × Obj)) (σ : St) (Q : VK) (u : Value) (s' : Shared) : Prop := ∃ v H',Inv X pins σ H' s' ∧ RelV v u ∧ Q v H'
def TP (X : Cx) (pins : List (Addr × Obj)) (σ : St) (Q : Bool → Hp → Prop) (b : Bool) (s' : Shared) : Prop := ∃ H',Inv X pins σ H' s' ∧ Q b H'
def AP (X : Cx) (pins : List (Addr × Obj)) (σ : St) (Q : List V → Hp → Prop) (us : List Value) (s' : Shared) : Prop := ∃ vs H',Inv X pins σ H' s' ∧ Vals vs us ∧ Q vs H'
def SP (X : Cx) (pins : List (Addr × Obj)) (D : Ends) (f : Flow) (s' : Shared) : Prop :=
  match f with
  | .next => ∃ σ' H',Inv X pins σ' H' s' ∧ D.nx σ' H'
  | .brk => ∃ σ' H',Inv X pins σ' H' s' ∧ D.bk σ' H'
  | .cont => ∃ σ' H',Inv X pins σ' H' s' ∧ D.ct σ' H'
  | .ret u => ∃ v σ' H',Inv X pins σ' H' s' ∧ RelV v u ∧ D.rt v H'
def PE (X : Cx) (e : Expr) (t : TE) : Prop :=
  ∀ (pins : List (Addr × Obj)) (s : Shared) (σ : St) (H : Hp) (Q : VK),Inv X pins σ H s → t σ H Q → wpAny (model X.prog X.w) X.A (eval e X.env) (EP X pins σ Q) X.xe s
def PT (X : Cx) (e : Expr) (t : TT) : Prop :=
  ∀ (pins : List (Addr × Obj)) (s : Shared) (σ : St) (H : Hp) (Q : Bool → Hp → Prop),Inv X pins σ H s → t σ H Q → wpAny (model X.prog X.w) X.A (isTrue e X.env (eval e X.env)) (TP X pins σ Q) X.xe s
def PW (X : Cx) (e : Expr) (t : TT) : Prop :=
  ∀ (whole : Sem Value) (pins : List (Addr × Obj)) (s : Shared) (σ : St) (H : Hp) (Q : Bool → Hp → Prop),Inv X pins σ H s → t σ H Q → wpAny (model X.prog X.w) X.A (isTrue e X.env whole) (TP X pins σ Q) X.xe s
theorem PW.pt {X : Cx} {e : Expr} {t : TT} (h : PW X e t) : PT X e t := h _
def PA (X : Cx) (es : List Expr) (t : TA) : Prop :=
  ∀ (pos : Pos) (pins : List (Addr × Obj)) (s : Shared) (σ : St) (H : Hp) (Q : List V → Hp → Prop),Inv X pins σ H s → t σ H Q → wpAny (model X.prog X.w) X.A (spliced (backTo pos (starEach es X.env))) (AP X pins σ Q) X.xe s
def PS (X : Cx) (st : Stmt) (t : TS) : Prop :=
  ∀ (pins : List (Addr × Obj)) (s : Shared) (σ : St) (H : Hp) (D : Ends),Inv X pins σ H s → t D σ H → wpAny (model X.prog X.w) X.A (exec st X.env) (SP X pins D) X.xe s
def PSs (X : Cx) (st : List Stmt) (t : TS) : Prop :=
  ∀ (pins : List (Addr × Obj)) (s : Shared) (σ : St) (H : Hp) (D : Ends),Inv X pins σ H s → t D σ H → wpAny (model X.prog X.w) X.A (execs st X.env) (SP X pins D) X.xe s
theorem thn {α : Type} {t : Sem α} {Q Q' : α → Shared → Prop} {M : Model} {A : Around} {E : Value → Shared → Prop} {s : Shared} (h : wpAny M A t Q E s) (hQ : ∀ a s,Q a s → Q' a s) : wpAny M A t Q' E s := wpAny_mono h hQ fun _ _ x => x
end L2
namespace L2
open PySem PySem.Spec PyProof.Rows
section
variable {X : Cx}
inductive tVar (i : Nat) (σ : St) (H : Hp) (Q : VK) : Prop
  | mk (v : V) (e : σ[i]? = some (some v)) (q : Q v H) : tVar i σ H Q
def tC (v : V) : TE := fun _ H Q => Q v H
theorem pe_var {i : Nat} {x : Str} {pos : Pos} (hN : X.N[i]? = some x) (hv : Vis X.env.scope x) (hd : (x == ("__debug__" : Str)) = false := by decide) (hcd : (x == ("__classdict__" : Str)) = false := by decide) : PE X (.Name x pos) (tVar i) := by
  intro pins s σ H Q I h
  obtain ⟨v,e,h⟩ := h
  obtain ⟨m,hn,hl⟩ := I.loc
  obtain ⟨u,r,l⟩ := hl i x v hN e hv
  have fin : EP X pins σ Q u s := ⟨v,H,I,r,h⟩
  rcases l with ⟨hk,hm⟩ | ⟨hk,c,hc,hcell⟩
  · exact wpAny_Name (wpAny_loadName_local I.ok.kind hk hn hm fin) hd
  · rcases hk with hk | hk
    · exact wpAny_Name (wpAny_loadName_cell I.ok.kind hk hc hcell fin) hd
    · exact wpAny_Name (wpAny_loadName_free I.ok.kind hk hc hcell fin hcd) hd
theorem pe_int {i j pos} : PE X (.Constant (.int i) j pos) (tC (.int i)) := fun _ _ _ H _ I h => wpAny_Constant_int ⟨.int i,H,I.tok _,⟨_,rfl⟩,h⟩
theorem pe_bl {b j pos} : PE X (.Constant (.bool b) j pos) (tC (.bl b)) := fun _ _ _ H _ I h => Constant_bool ⟨.bl b,H,I,rfl,h⟩
theorem pe_non {j pos} : PE X (.Constant .none j pos) (tC .non) := fun _ _ _ H _ I h => Constant_none ⟨.non,H,I,rfl,h⟩
theorem pe_str {x j pos} : PE X (.Constant (.str x) j pos) (tC (.str x)) := fun _ _ _ H _ I h => Calls.Constant_str ⟨.str x,H,I.tok _,⟨_,rfl⟩,h⟩
def Gl (X : Cx) (x : Str) : Prop := X.env.kindOf x = some .globalImplicit
theorem ld_glob {E : Value → Shared → Prop} {pins : List (Addr × Obj)} {s : Shared} {σ : St} {H : Hp} {x : Str} {u : Value} {pos : Pos} {Q : Value → Shared → Prop} (I : Inv X pins σ H s) (hg : Gl X x) (hm : X.mg x = some u) (h : Q u s)
    (hd : (x == ("__debug__" : Str)) = false := by decide) : wpAny (model X.prog X.w) X.A (eval (.Name x pos) X.env) Q E s :=
  Calls.Name_function_global I.ok.kind hg (Calls.loadGlobal_global (by rw [I.ok.glob]; exact I.mod.glob.keeps I.bk) hm h) hd
theorem ld_blt {E : Value → Shared → Prop} {pins : List (Addr × Obj)} {s : Shared} {σ : St} {H : Hp} {x : Str} {u : Value} {pos : Pos} {Q : Value → Shared → Prop} (I : Inv X pins σ H s) (hg : Gl X x) (hm : X.mg x = none) (hv : bootBuiltins x = some u) (h : Q u s)
    (hn : x ≠ "__name__" := by decide) (hd : (x == ("__debug__" : Str)) = false := by decide) : wpAny (model X.prog X.w) X.A (eval (.Name x pos) X.env) Q E s := by
  obtain ⟨mb,h1,h2⟩ := I.mod.blt
  exact Calls.Name_function_global I.ok.kind hg (Calls.loadGlobal_builtin (by rw [I.ok.glob]; exact I.mod.glob.keeps I.bk) hm (by rw [I.ok.blt]; exact h1.keeps I.bk) ((h2 x hn).trans hv) h) hd
theorem pe_glob {x : Str} {v : V} {u : Value} {pos : Pos} (hg : Gl X x) (hm : X.mg x = some u) (r : RelV v u) (hd : (x == ("__debug__" : Str)) = false := by decide) : PE X (.Name x pos) (tC v) :=
  fun _ _ _ H _ I h => ld_glob I hg hm ⟨v,H,I,r,h⟩ hd
theorem pe_bltn {x : Str} {v : V} {u : Value} {pos : Pos} (hg : Gl X x) (hm : X.mg x = none) (hv : bootBuiltins x = some u) (r : RelV v u) (hn : x ≠ "__name__" := by decide) (hd : (x == ("__debug__" : Str)) = false := by decide) : PE X (.Name x pos) (tC v) :=
  fun _ _ _ H _ I h => ld_blt I hg hm hv ⟨v,H,I,r,h⟩ hn hd
variable {a b : Expr} {ta tb : TE} {pos : Pos}
def tB (t : TE) : TT := fun σ H Q => t σ H fun x H1 => ∃ c,x = .bl c ∧ Q c H1
theorem pt_val {e : Expr} {t : TE} (h : PE X e t) (he : ∀ whole,isTrue e X.env whole = (do let v ← whole; standAt e.pos; holding [v] (truthy v)) := by intro _; rfl) : PT X e (tB t) := by
  intro pins s σ H Q I hw
  refine isTrue_plain (thn (h pins s σ H _ I hw) fun v s1 ⟨x,H1,I1,r1,q1⟩ => ?_) (he _)
  obtain ⟨d,rfl,q⟩ := q1
  cases r1
  exact wpAny_truthy_bool ⟨H1,I1,q⟩
variable {tA tB' : TT} {rest : List Expr}
def tAnd (t u : TT) : TT := fun σ H Q => t σ H fun c H1 => if c = true then u σ H1 Q else Q false H1
def tOr (t u : TT) : TT := fun σ H Q => t σ H fun c H1 => if c = true then Q true H1 else u σ H1 Q
def tNot (t : TT) : TT := fun σ H Q => t σ H fun c H1 => Q (!c) H1
theorem pw_and1 (ha : PT X a tA) : PW X (.BoolOp .And [a] pos) tA := by
  intro wh pins s σ H Q I h
  refine isTrue_and (thn (ha pins s σ H Q I h) fun c s1 e => ?_)
  cases c with
  | true => exact isTrue_and_nil e
  | false => exact e
theorem pw_or1 (ha : PT X a tA) : PW X (.BoolOp .Or [a] pos) tA := by
  intro wh pins s σ H Q I h
  refine isTrue_or (thn (ha pins s σ H Q I h) fun c s1 e => ?_)
  cases c with
  | false => exact isTrue_or_nil e
  | true => exact e
theorem pw_and (ha : PT X a tA) (hb : PW X (.BoolOp .And (b :: rest) pos) tB') : PW X (.BoolOp .And (a :: b :: rest) pos) (tAnd tA tB') := by
  intro wh pins s σ H Q I h
  refine isTrue_and (thn (ha pins s σ H _ I h) fun c s1 ⟨H1,I1,q1⟩ => ?_)
  cases c with
  | true => exact hb wh pins s1 σ H1 Q I1 q1
  | false => exact ⟨H1,I1,q1⟩
theorem pw_or (ha : PT X a tA) (hb : PW X (.BoolOp .Or (b :: rest) pos) tB') : PW X (.BoolOp .Or (a :: b :: rest) pos) (tOr tA tB') := by
  intro wh pins s σ H Q I h
  refine isTrue_or (thn (ha pins s σ H _ I h) fun c s1 ⟨H1,I1,q1⟩ => ?_)
  cases c with
  | true => exact ⟨H1,I1,q1⟩
  | false => exact hb wh pins s1 σ H1 Q I1 q1
theorem pt_not (ha : PT X a tA) : PT X (.UnaryOp .Not a pos) (tNot tA) := by
  intro pins s σ H Q I h
  exact isTrue_not (ha pins s σ H (fun c H1 => Q (!c) H1) I h)
def tAndV (ta tb : TE) : TE := fun σ H Q => ta σ H fun x H1 => ∃ c,x = .bl c ∧ if c = true then tb σ H1 Q else Q (.bl false) H1
def tNotV (ta : TE) : TE := fun σ H Q => ta σ H fun x H1 => ∃ c,x = .bl c ∧ Q (.bl (!c)) H1
theorem pe_one {op} {t : TE} (h : PE X a t) : PE X (.BoolOp op [a] pos) t := fun pins s σ H Q I hw => BoolOp_one (h pins s σ H Q I hw)
theorem pe_and (ha : PE X a ta) (hb : PE X (.BoolOp .And (b :: rest) pos) tb) : PE X (.BoolOp .And (a :: b :: rest) pos) (tAndV ta tb) := by
  intro pins s σ H Q I h
  refine BoolOp_and (thn (ha pins s σ H _ I h) fun v s1 ⟨x,H1,I1,r1,q1⟩ => ?_)
  obtain ⟨c,rfl,q1⟩ := q1
  cases r1
  refine wpAny_truthy_bool ?_
  cases c with
  | true => exact hb pins s1 σ H1 Q I1 q1
  | false => exact ⟨.bl false,H1,I1,rfl,q1⟩
theorem pe_not (ha : PE X a ta) : PE X (.UnaryOp .Not a pos) (tNotV ta) := by
  intro pins s σ H Q I h
  refine UnaryOp_ (thn (ha pins s σ H _ I h) fun v s1 ⟨x,H1,I1,r1,q1⟩ => ?_)
  obtain ⟨c,rfl,q1⟩ := q1
  cases r1
  exact not_of (wpAny_truthy_bool ⟨.bl (!c),H1,I1,rfl,q1⟩)
def tIf (t : TT) (ta tb : TE) : TE := fun σ H Q => t σ H fun c H1 => if c = true then ta σ H1 Q else tb σ H1 Q
theorem pe_ifExp {c : Expr} (hc : PT X c tA) (ha : PE X a ta) (hb : PE X b tb) : PE X (.IfExp c a b pos) (tIf tA ta tb) := by
  intro pins s σ H Q I h
  refine wpAny_IfExp (thn (hc pins s σ H _ I h) fun d s1 ⟨H1,I1,q1⟩ => ?_)
  cases d with
  | true => exact ha pins s1 σ H1 Q I1 q1
  | false => exact hb pins s1 σ H1 Q I1 q1
end
end L2
namespace L2
open PySem PySem.Spec PyProof.Rows
def SqL (K : PySem.W.Frag) (H : Hp) (a : Addr) (xs : List V) : Prop :=
  Rd H a (.lst xs) ∨
    ∃ (o : Obj) (its : Array Value) (n : Nat),K.lookup a = some o ∧ o.cls = .type "list" ∧ o.dict = none ∧ o.data = .seq its n ∧ its.size ≤ sizeLine ∧ Vals xs its.toList
def SqT (K : PySem.W.Frag) (H : Hp) (a : Addr) (xs : List V) : Prop :=
  Rd H a (.tup xs) ∨
    ∃ (o : Obj) (its : Array Value) (n : Nat),K.lookup a = some o ∧ o.cls = .type "tuple" ∧ o.data = .seq its n ∧ its.size ≤ sizeLine ∧ Vals xs its.toList
def absV : Value → Option V
  | .none => some .non
  | .bool b => some (.bl b)
  | .int i _ => some (.int i)
  | .str x _ => some (.str x)
  | .bytes b _ => some (.byt b)
  | .float b _ => some (.flt b)
  | .ref a => some (.ref a)
  | .type n => some (.ty n)
  | _ => none
theorem RelV.abs {x : V} {u : Value} (r : RelV x u) : absV u = some x := by
  cases x with
  | non => cases r; rfl
  | bl _ => cases r; rfl
  | int _ => obtain ⟨t,rfl⟩ := r; rfl
  | str _ => obtain ⟨t,rfl⟩ := r; rfl
  | byt _ => obtain ⟨t,rfl⟩ := r; rfl
  | flt _ => obtain ⟨t,rfl⟩ := r; rfl
  | ref _ => cases r; rfl
  | ty _ => cases r; rfl
theorem RelV.inj {x y : V} {u : Value} (r : RelV x u) (q : RelV y u) : x = y := Option.some.inj (r.abs.symm.trans q.abs)
theorem Vals.inj : ∀ {xs ys : List V} {us : List Value},Vals xs us → Vals ys us → xs = ys
  | _,_,_,.nil,.nil => rfl
  | _,_,_,.cons r t,.cons r' t' => by rw [r.inj r',Vals.inj t t']
section
variable {X : Cx} {pins : List (Addr × Obj)} {σ : St} {H : Hp} {s : Shared} {a : Addr} {xs ys : List V}
theorem SqL.of {K : PySem.W.Frag} (h : H a = some (.lst xs)) : SqL K H a xs := .inl (.inl h)
theorem SqT.of {K : PySem.W.Frag} (h : H a = some (.tup xs)) : SqT K H a xs := .inl (.inl h)
theorem Inv.list (I : Inv X pins σ H s) (h : SqL X.K H a xs) : ∃ its : List Value,Vals xs its ∧ PlainL s.heap a its.toArray ∧ xs.length ≤ sizeLine := by
  rcases h with h | ⟨o,its,n,hk,hc,hd,hs,hz,r⟩
  · obtain ⟨z,its,n,r,e⟩ := h.ok I.hok
    exact ⟨its,r,⟨_,n,e,rfl,rfl,rfl⟩,z⟩
  · refine ⟨its.toList,r,⟨o,n,I.kIn a o hk,hc,hd,by simpa using hs⟩,?_⟩
    have e := r.length
    simp only [Array.length_toList] at e
    omega
theorem Inv.tuple (I : Inv X pins σ H s) (h : SqT X.K H a xs) : ∃ its : List Value,Vals xs its ∧ IsTup s.heap a its.toArray ∧ xs.length ≤ sizeLine := by
  rcases h with h | ⟨o,its,n,hk,hc,hs,hz,r⟩
  · obtain ⟨z,its,r,p⟩ := h.ok I.hok
    exact ⟨its,r,p,z⟩
  · refine ⟨its.toList,r,⟨o,I.kIn a o hk,hc,n,by simpa using hs⟩,?_⟩
    have e := r.length
    simp only [Array.length_toList] at e
    omega
theorem Inv.list_inj (I : Inv X pins σ H s) (h : SqL X.K H a xs) (h' : SqL X.K H a ys) : xs = ys := by
  obtain ⟨its,r,⟨o,n,e,_,_,d⟩,_⟩ := I.list h
  obtain ⟨its',r',⟨o',n',e',_,_,d'⟩,_⟩ := I.list h'
  rw [e] at e'; cases e'
  rw [d] at d'
  injection d' with d1 _
  have : its = its' := by simpa using congrArg Array.toList d1
  subst this
  exact r.inj r'
end
abbrev Cx.wish (X : Cx) (E : Value → Shared → Prop) : Cx := { X with xe := E }
abbrev Cx.nox (X : Cx) : Cx := X.wish fun _ _ => False
theorem Cx.Ok.wish {X : Cx} (ok : X.Ok) (E : Value → Shared → Prop) : (X.wish E).Ok :=
  ⟨ok.mod,ok.kind,ok.glob,ok.blt,ok.above,ok.inj,ok.has,ok.cab,ok.hd,ok.frames,ok.stk,ok.exf,ok.bs,ok.bsz,ok.noex,ok.exfs,ok.funs,ok.frf⟩
theorem Cx.Ok.unwish {X : Cx} {E : Value → Shared → Prop} (ok : (X.wish E).Ok) : X.Ok :=
  ⟨ok.mod,ok.kind,ok.glob,ok.blt,ok.above,ok.inj,ok.has,ok.cab,ok.hd,ok.frames,ok.stk,ok.exf,ok.bs,ok.bsz,ok.noex,ok.exfs,ok.funs,ok.frf⟩
section
variable {X : Cx} {pins : List (Addr × Obj)} {σ : St} {H : Hp} {s : Shared} {E : Value → Shared → Prop}
theorem Inv.wish (I : Inv X pins σ H s) (E : Value → Shared → Prop) : Inv (X.wish E) pins σ H s := ⟨I.ok.wish E,I.os,I.bare,I.base,I.loc,I.cell,I.free,I.freeC,I.pin,I.hok,I.len⟩
theorem Inv.unwish (I : Inv (X.wish E) pins σ H s) : Inv X pins σ H s := ⟨I.ok.unwish,I.os,I.bare,I.base,I.loc,I.cell,I.free,I.freeC,I.pin,I.hok,I.len⟩
theorem SP.unwish {D : Ends} {f : Flow} {s' : Shared} (h : SP (X.wish E) pins D f s') : SP X pins D f s' := by
  cases f with
  | next => obtain ⟨σ',H',I,q⟩ := h; exact ⟨σ',H',I.unwish,q⟩
  | brk => obtain ⟨σ',H',I,q⟩ := h; exact ⟨σ',H',I.unwish,q⟩
  | cont => obtain ⟨σ',H',I,q⟩ := h; exact ⟨σ',H',I.unwish,q⟩
  | ret u => obtain ⟨v,σ',H',I,r,q⟩ := h; exact ⟨v,σ',H',I.unwish,r,q⟩
theorem PSs.nox {st : List Stmt} {t : TS} (h : PSs X.nox st t) : PSs X st t := fun pins s σ H D I hw =>
  wpAny_mono (h pins s σ H D (I.wish _) hw) (fun _ _ q => q.unwish) fun _ _ z => False.elim z
end
section
variable {X : Cx} {st : Stmt} {rest : List Stmt} {t u : TS} {e : Expr} {te : TE} {pos : Pos}
def tNext : TS := fun D σ H => D.nx σ H
def tSeq (t u : TS) : TS := fun D σ H => t { D with nx := u D } σ H
theorem pss_nil : PSs X [] tNext := fun _ _ σ H _ I h => wpAny_execs_nil ⟨σ,H,I,h⟩
theorem pss_cons (h1 : PS X st t) (h2 : PSs X rest u) : PSs X (st :: rest) (tSeq t u) := by
  intro pins s σ H D I h
  refine wpAny_execs_cons (thn (h1 pins s σ H { D with nx := u D } I h) fun f s1 q => ?_)
  cases f with
  | next =>
    obtain ⟨σ',H',I',q⟩ := q
    exact h2 pins s1 σ' H' D I' q
  | ret v => exact q
  | brk => exact q
  | cont => exact q
theorem pss_one (h1 : PS X st t) : PSs X [st] t := by
  intro pins s σ H D I h
  refine wpAny_execs_cons (thn (h1 pins s σ H D I h) fun f s1 q => ?_)
  cases f with
  | next => exact wpAny_execs_nil q
  | ret v => exact q
  | brk => exact q
  | cont => exact q
theorem Inv.quiet {pins : List (Addr × Obj)} {σ : St} {H : Hp} {s : Shared} (I : Inv X pins σ H s) : interactive X.env = false := by simp [interactive,I.ok.kind]
def tDrop (te : TE) : TS := fun D σ H => te σ H fun _ H1 => D.nx σ H1
theorem ps_expr (he : PE X e te) (hs : swapsWith e none pos.line X.env = pure false := by rfl) : PS X (.Expr e pos) (tDrop te) := by
  intro pins s σ H D I h
  exact wpAny_Expr_any (thn (he pins s σ H _ I h) fun v s1 ⟨x,H1,I1,r1,q1⟩ => ⟨σ,H1,I1,q1⟩) I.quiet hs
def tRet (te : TE) : TS := fun D σ H => te σ H D.rt
theorem ps_ret (he : PE X e te) : PS X (.Return (some e) pos) (tRet te) := by
  intro pins s σ H D I h
  exact wpAny_Return_some (thn (he pins s σ H _ I h) fun v s1 ⟨x,H1,I1,r1,q1⟩ => ⟨x,σ,H1,I1,r1,q1⟩)
def tIfS (c : TT) (t u : TS) : TS := fun D σ H => c σ H fun b H1 => if b = true then t D σ H1 else u D σ H1
theorem ps_if {c : Expr} {a b : List Stmt} {tc : TT} (hc : PT X c tc) (ha : PSs X a t) (hb : PSs X b u) : PS X (.If c a b pos) (tIfS tc t u) := by
  intro pins s σ H D I h
  refine wpAny_If (thn (hc pins s σ H _ I h) fun d s1 ⟨H1,I1,q1⟩ => ?_)
  cases d with
  | true => exact ha pins s1 σ H1 D I1 q1
  | false => exact hb pins s1 σ H1 D I1 q1
end
abbrev TG := V → St → Hp → (St → Hp → Prop) → Prop
abbrev TGs := List V → St → Hp → (St → Hp → Prop) → Prop
def PG (X : Cx) (target : Expr) (t : TG) : Prop :=
  ∀ (pins : List (Addr × Obj)) (s : Shared) (σ : St) (H : Hp) (v : V) (u : Value) (Q : St → Hp → Prop),Inv X pins σ H s → RelV v u → t v σ H Q →
    wpAny (model X.prog X.w) X.A (assign target X.env u) (fun _ s' => ∃ σ' H',Inv X pins σ' H' s' ∧ Q σ' H') X.xe s
def PGs (X : Cx) (ts : List Expr) (t : TGs) : Prop :=
  ∀ (pins : List (Addr × Obj)) (s : Shared) (σ : St) (H : Hp) (vs : List V) (us : List Value) (Q : St → Hp → Prop),Inv X pins σ H s → Vals vs us → t vs σ H Q →
    wpAny (model X.prog X.w) X.A (assignInOrder ((assignEach ts X.env).map (·.2)) us) (fun _ s' => ∃ σ' H',Inv X pins σ' H' s' ∧ Q σ' H') X.xe s
abbrev TSet := V → V → V → Hp → (Hp → Prop) → Prop
def PSet (X : Cx) (t : TSet) : Prop :=
  ∀ (pins : List (Addr × Obj)) (s : Shared) (σ : St) (H : Hp) (o i v : V) (ov iv u : Value) (Q : Hp → Prop),Inv X pins σ H s → RelV o ov → RelV i iv → RelV v u → t o i v H Q →
    wpAny (model X.prog X.w) X.A (setItem ov iv u) (fun _ s' => ∃ H',Inv X pins σ H' s' ∧ Q H') X.xe s
section
variable {X : Cx} {pos : Pos}
def gName (i : Nat) : TG := fun v σ H Q => Q (σ.set i (some v)) H
theorem pg_name {i : Nat} {x : Str} (hN : X.N.Nodup) (hi : X.N[i]? = some x) (hx : Loc X.env.scope x) (hf : X.fn x = true ∨ X.env.scope.names.lookup x = some .local := by first | exact .inl rfl | exact .inr rfl | assumption) : PG X (.Name x pos) (gName i) := by
  intro pins s σ H v u Q I r h
  exact wpAny_assign_Name (store_ok I hN hi hx r (fun s' I' => ⟨_,H,I',h⟩) hf)
inductive gNil (vs : List V) (σ : St) (H : Hp) (Q : St → Hp → Prop) : Prop
  | mk (e : vs = []) (q : Q σ H) : gNil vs σ H Q
inductive gCons (t : TG) (u : TGs) (vs : List V) (σ : St) (H : Hp) (Q : St → Hp → Prop) : Prop
  | mk (v : V) (r : List V) (e : vs = v :: r) (q : t v σ H fun σ' H' => u r σ' H' Q) : gCons t u vs σ H Q
theorem pgs_nil : PGs X [] gNil := by
  intro pins s σ H vs us Q I r h
  obtain ⟨e,h⟩ := h
  subst e
  cases r
  exact assignInOrder_nil ⟨σ,H,I,h⟩
theorem pgs_cons {e : Expr} {es : List Expr} {t : TG} {u : TGs} (h1 : PG X e t) (h2 : PGs X es u)
    (hs : (assignEach (e :: es) X.env).map (·.2) = assign e X.env :: (assignEach es X.env).map (·.2) := by rfl) : PGs X (e :: es) (gCons t u) := by
  intro pins s σ H vs us Q I r h
  obtain ⟨v,vr,e1,h⟩ := h
  subst e1
  cases r with
  | cons r rr =>
    rw [hs]
    refine assignInOrder_cons (thn (h1 pins s σ H _ _ _ I r h) fun _ s1 ⟨σ1,H1,I1,q1⟩ => ?_)
    exact h2 pins s1 σ1 H1 _ _ Q I1 rr q1
inductive gTup (K : PySem.W.Frag) (n : Nat) (t : TGs) (v : V) (σ : St) (H : Hp) (Q : St → Hp → Prop) : Prop
  | mk (a : Addr) (xs : List V) (e : v = .ref a) (s : SqT K H a xs) (l : xs.length = n) (q : t xs σ H Q) : gTup K n t v σ H Q
theorem pg_tup {es : List Expr} {k : Nat} {t : TGs} {n : Nat} (hc : X.calm = true) (h : PGs X es t)
    (hn : (assignEach es X.env).length = n := by rfl) (hst : (assignEach es X.env).findIdx? (·.1) = none := by rfl) : PG X (.Tuple es k pos) (gTup X.K n t) := by
  intro pins s σ H v u Q I r hw
  obtain ⟨a,xs,e1,hq,hl,hw⟩ := hw
  subst e1
  cases r
  obtain ⟨its,rv,ht,hz⟩ := I.tuple hq
  refine assign_Tuple_tuple (I.ok.hd hc) ht (by simp [hn,← hl,rv.length]) hst fun h' hx => ?_
  have I1 : Inv X pins σ H { s with heap := h' } := I.kept (t' := s.toks) fun b o e => hx b o (Nat.ne_of_lt (Heap.lt_size e)) e
  exact h pins _ σ H xs _ Q I1 (by simpa using rv) hw
def gSub (to ti : TE) (t : TSet) : TG := fun v σ H Q => to σ H fun o H1 => ti σ H1 fun i H2 => t o i v H2 fun H3 => Q σ H3
theorem pg_sub {o i : Expr} {to ti : TE} {t : TSet} (ho : PE X o to) (hi : PE X i ti) (hs : PSet X t)
    (ha : ∀ v,assign (.Subscript o i pos) X.env v = (do
      let ov ← holding [v] (eval o X.env)
      let iv ← holding [v,ov] (eval i X.env)
      standAt pos
      holding [v,ov,iv] (setItem ov iv v)
      release [v,ov,iv] []) := by intro _; rfl) : PG X (.Subscript o i pos) (gSub to ti t) := by
  intro pins s σ H v u Q I r h
  rw [ha]
  refine wpAny_bind (wpAny_holding (thn (ho pins s σ H _ I h) fun ov s1 ⟨x,H1,I1,r1,q1⟩ => ?_))
  refine wpAny_bind (wpAny_holding (thn (hi pins s1 σ H1 _ I1 q1) fun iv s2 ⟨y,H2,I2,r2,q2⟩ => ?_))
  refine wpAny_bind (wpAny_standAt (wpAny_bind (wpAny_holding (thn (hs pins s2 σ H2 x y v ov iv u _ I2 r1 r2 r q2) fun _ s3 ⟨H3,I3,q3⟩ => ?_))))
  exact wpAny_release ⟨σ,H3,I3,q3⟩
def tAsg (te : TE) (g : TG) : TS := fun D σ H => te σ H fun x H1 => g x σ H1 D.nx
theorem ps_asg {tg e : Expr} {te : TE} {g : TG} (he : PE X e te) (hg : PG X tg g) (hs : swapsWithSole [tg] e pos.line X.env = pure false := by rfl) (hw : swappedStores [tg] e X.env = pure none := by rfl)
    (h1 : (assignEach [tg] X.env).map (·.2) = [assign tg X.env] := by rfl) : PS X (.Assign [tg] e pos) (tAsg te g) := by
  intro pins s σ H D I h
  refine wpAny_Assign_stores (thn (he pins s σ H _ I h) fun v s1 ⟨x,H1,I1,r1,q1⟩ => ?_) hs hw
  rw [h1]
  exact thn (hg pins s1 σ H1 x v _ I1 r1 q1) fun _ s2 q => q
theorem ps_set {i : Nat} {x : Str} {e : Expr} {te : TE} {pos' : Pos} (hN : X.N.Nodup) (hi : X.N[i]? = some x) (hx : Loc X.env.scope x) (he : PE X e te) (hs : swapsWith e (some (.Name x pos')) pos.line X.env = pure false := by rfl) (hf : X.fn x = true ∨ X.env.scope.names.lookup x = some .local := by first | exact .inl rfl | exact .inr rfl | assumption) :
    PS X (.Assign [.Name x pos'] e pos) (tAsg te (gName i)) := by
  intro pins s σ H D I h
  refine wpAny_Assign_Name (thn (he pins s σ H _ I h) fun v s1 ⟨y,H1,I1,r1,q1⟩ => ?_) hs
  exact store_ok I1 hN hi hx r1 (fun s2 I2 => ⟨_,H1,I2,q1⟩) hf
end
section
variable {X : Cx} {pos : Pos}
def tWhile (c : TT) (tb : TS) : TS := fun D σ H => ∃ W : Nat → St → Hp → Prop,(∃ m,W m σ H) ∧ ∀ m σ H,W m σ H →
  c σ H fun b H1 => if b = true then ∃ N : St → Hp → Prop,(∀ σ' H',N σ' H' → ∃ m',m' < m ∧ W m' σ' H') ∧ tb { D with nx := N,ct := N,bk := D.nx } σ H1 else D.nx σ H1
theorem ps_while {c : Expr} {body : List Stmt} {tc : TT} {tb : TS} (hp : PassesOwn (model X.prog X.w) X.A X.env X.xe) (hc : PT X c tc) (hb : PSs X body tb) : PS X (.While c body [] pos) (tWhile tc tb) := by
  intro pins s σ H D I h
  obtain ⟨W,⟨m0,w0⟩,turn⟩ := h
  refine wpAny_While (codeAny_whileLoop (fun n s' => ∃ σ' H',Inv X pins σ' H' s' ∧ W n σ' H') ?_ m0 ⟨σ,H,I,w0⟩)
  rintro n s1 ⟨σ1,H1,I1,w1⟩
  refine wpAny_passesOwn hp (thn (hc pins s1 σ1 H1 _ I1 (turn n σ1 H1 w1)) fun b s2 ⟨H2,I2,q2⟩ => ?_)
  cases b with
  | true =>
    obtain ⟨N,hN,q2⟩ := q2
    rw [if_pos rfl]
    refine wpAny_passesOwn hp (thn (hb pins s2 σ1 H2 _ I2 q2) fun f s3 q3 => ?_)
    cases f with
    | next =>
      obtain ⟨σ3,H3,I3,n3⟩ := q3
      obtain ⟨m',hm,w3⟩ := hN σ3 H3 n3
      exact ⟨m',hm,σ3,H3,I3,w3⟩
    | cont =>
      obtain ⟨σ3,H3,I3,n3⟩ := q3
      obtain ⟨m',hm,w3⟩ := hN σ3 H3 n3
      exact ⟨m',hm,σ3,H3,I3,w3⟩
    | brk => exact q3
    | ret v => exact q3
  | false =>
    rw [if_neg Bool.false_ne_true]
    exact wpAny_execs_nil ⟨σ1,H2,I2,q2⟩
end
structure It where
  go : Nat → Hp → Prop
  yld : Nat → Hp → V → Hp → Prop
  stop : Nat → Hp → Prop
def FpOk (X : Cx) (pins : List (Addr × Obj)) (H : Hp) (b : Addr) : Prop :=
  H b = none ∧ b ≠ X.env.locals ∧ b ∉ X.fs ∧ (b ∈ X.ex ∨ X.s₀.heap.objs.size ≤ b) ∧ (∀ x c,X.env.cells.lookup x = some c → c ≠ b) ∧ ∀ p ∈ X.pn ++ pins,p.1 ≠ b
theorem Inv.fpOk {X : Cx} {pins : List (Addr × Obj)} {σ : St} {H H' : Hp} {s : Shared} {b : Addr} (I : Inv X pins σ H s) (hb : s.heap.objs.size ≤ b) (hn : H' b = none) : FpOk X pins H' b := by
  refine ⟨hn,Nat.ne_of_gt (Nat.lt_of_lt_of_le I.lt hb),I.nofs hb,.inr (Nat.le_trans I.sz hb),fun x c e z => ?_,fun p hp z => ?_⟩
  · obtain ⟨v,q⟩ := I.cell x c e
    exact absurd (Nat.lt_of_lt_of_le q.lt (by rw [z]; exact hb)) (Nat.lt_irrefl _)
  · exact absurd (Nat.lt_of_lt_of_le (Heap.lt_size (I.pin p hp).1) (by rw [z]; exact hb)) (Nat.lt_irrefl _)
structure Turn (P : Program) (w : World) (K : PySem.W.Frag) (tg : Expr) (J : It) (fp : List Addr) (it : Addr) (tn : Nat → Heap → Prop) : Prop where
  mem : it ∈ fp
  obj : ∀ i h,tn i h → ∀ b ∈ fp,∃ o,h.get? b = some o ∧ ∀ v,o.data ≠ .cell v
  keep : ∀ i h h',tn i h → (∀ b ∈ fp,∀ o,h.get? b = some o → h'.get? b = some o) → tn i h'
  item : ∀ (X : Cx),X.prog = P → X.w = w → X.K = K → X.calm = true → ∀ (i : Nat) (pins : List (Addr × Obj)) (s : Shared) (σ : St) (H : Hp) (E : Value → Shared → Prop),Inv X pins σ H s → (∀ b ∈ fp,FpOk X pins H b) → tn i s.heap → J.go i H →
    wpAny (model P w) X.A (pyNext (.ref it)) (fun r s1 => ∃ u,r = some u ∧
      wpAny (model P w) X.A (letOwnedTupleGo tg (.ref it) u) (fun _ s2 => ∃ x H',Inv X pins σ H' s2 ∧ RelV x u ∧ J.yld i H x H' ∧ tn (i + 1) s2.heap ∧ ∀ b ∈ fp,H' b = none) E s1) E s
  done : ∀ (X : Cx),X.prog = P → X.w = w → X.K = K → X.calm = true → ∀ (i : Nat) (pins : List (Addr × Obj)) (s : Shared) (σ : St) (H : Hp) (E : Value → Shared → Prop),Inv X pins σ H s → (∀ b ∈ fp,FpOk X pins H b) → tn i s.heap → J.stop i H →
    wpAny (model P w) X.A (pyNext (.ref it)) (fun r s1 => r = none ∧ Inv X pins σ H s1) E s
  self : ∀ (A : Around) (i : Nat) (s : Shared) (Q : Value → Shared → Prop) (E : Value → Shared → Prop),tn i s.heap → Q (.ref it) s → wpAny (model P w) A (pyIter (.ref it)) Q E s
abbrev TI := St → Hp → (It → Hp → Prop) → Prop
def PIE (X : Cx) (pins : List (Addr × Obj)) (σ : St) (tg : Expr) (R : It → Hp → Prop) (itv : Value) (s2 : Shared) : Prop :=
  ∃ (it : Addr) (fp : List Addr) (tn : Nat → Heap → Prop) (J : It) (H' : Hp),itv = .ref it ∧ Inv X pins σ H' s2 ∧ Turn X.prog X.w X.K tg J fp it tn ∧ tn 0 s2.heap ∧ (∀ b ∈ fp,FpOk X pins H' b) ∧ R J H'
def PI (X : Cx) (tg iter : Expr) (wi : TI) : Prop :=
  ∀ (pins : List (Addr × Obj)) (s : Shared) (σ : St) (H : Hp) (R : It → Hp → Prop),Inv X pins σ H s → wi σ H R →
    wpAny (model X.prog X.w) X.A (eval iter X.env) (fun v s1 => wpAny (model X.prog X.w) X.A (pyIter v) (PIE X pins σ tg R) X.xe s1) X.xe s
theorem go_of {M : Model} {A : Around} {E : Value → Shared → Prop} {s : Shared} {tg : Expr} {it : Addr} {u : Value} {o : Obj} {n : String} {vs : Array Value} {Q : Unit → Shared → Prop} (ho : s.heap.get? it = some o) (hc : o.cls = .type n) (hd : o.data = .fields vs)
    (hn : ["enumerate","zip","dict_itemiterator","dict_reverseitemiterator","odict_iterator","itertools.zip_longest","itertools.pairwise"].contains n = false) (hQ : Q () s) : wpAny M A (letOwnedTupleGo tg (.ref it) u) Q E s := by
  unfold letOwnedTupleGo
  cases tg <;> first
    | exact wpAny_pure hQ
    | (cases u <;> first
        | exact wpAny_pure hQ
        | (refine wpAny_bind (wpAny_load ho ?_)
           rw [hc,hd]
           show wpAny M A (if (["enumerate","zip","dict_itemiterator","dict_reverseitemiterator","odict_iterator","itertools.zip_longest","itertools.pairwise"].contains n && vs[0]? == some (rawInt _)) = true then _ else _) Q E s
           rw [if_neg (by intro h; rw [hn,Bool.false_and] at h; cases h)]
           exact wpAny_pure hQ))
def Itl (K : PySem.W.Frag) (a : Addr) : It :=
  ⟨fun i H => ∃ xs x,SqL K H a xs ∧ xs[i]? = some x,fun i H x H' => H' = H ∧ ∀ xs,SqL K H a xs → xs[i]? = some x,fun i H => ∃ xs,SqL K H a xs ∧ xs.length ≤ i⟩
def Itr (lo : Int) (n : Nat) : It := ⟨fun i _ => i < n,fun i H x H' => H' = H ∧ x = .int (lo + i),fun i _ => n ≤ i⟩
theorem turn_list {P : Program} {w : World} {K : PySem.W.Frag} {tg : Expr} (a it : Addr) : Turn P w K tg (Itl K a) [it] it (fun i h => h.IsListIter it a i) where
  mem := by simp
  obj := fun i h st b hb => by
    have e : b = it := by simpa using hb
    subst e
    obtain ⟨o,e,c,d⟩ := st
    exact ⟨o,e,fun v z => by rw [d] at z; cases z⟩
  keep := fun i h h' st k => st.at fun o e => k it (by simp) o e
  item := by
    intro X hP hw hK hc i pins s σ H E I hf st hg
    subst hP hw hK
    obtain ⟨xs,x,hq,hx⟩ := hg
    obtain ⟨its,rv,p,hz⟩ := I.list hq
    obtain ⟨u,hu,ru⟩ := rv.get hx
    obtain ⟨f0,f1,f2,f3,f4,f5⟩ := hf it (by simp)
    refine wpAny_pyNext_list_item st p.isList (x := u) (by simpa using hu) fun h' st' sb => ?_
    have I1 : Inv X pins σ H { s with heap := h' } := I.turned (t' := s.toks) (fun b o hb e => (sb.2 b hb).trans e) f0 f1 f3 f4 f5
    obtain ⟨o,e,c,d⟩ := id st'
    exact ⟨u,rfl,go_of (s := { s with heap := h' }) e c d (by decide) ⟨x,H,I1,ru,⟨rfl,fun ys hy => by rw [I.list_inj hy hq]; exact hx⟩,st',fun b hb => (hf b hb).1⟩⟩
  done := by
    intro X hP hw hK hc i pins s σ H E I hf st hg
    subst hP hw hK
    obtain ⟨xs,hq,hx⟩ := hg
    obtain ⟨its,rv,p,hz⟩ := I.list hq
    obtain ⟨f0,f1,f2,f3,f4,f5⟩ := hf it (by simp)
    have hl := rv.length
    exact wpAny_pyNext_list_end (I.ok.hd hc) st p.isList (by simp; omega) fun h' eb => ⟨rfl,I.turned (t' := s.toks) (fun b o hb e => eb b o hb e) f0 f1 f3 f4 f5⟩
  self := fun _ _ _ _ _ st h => wpAny_pyIter_listiter st h
theorem turn_range {P : Program} {w : World} {K : PySem.W.Frag} {tg : Expr} (it : Addr) (lo : Int) (n : Nat) : Turn P w K tg (Itr lo n) [it] it (fun i h => IsRangeIter h it (lo + (i : Nat) * 1) ((n : Int) - (i : Nat)) 1) where
  mem := by simp
  obj := fun i h st b hb => by
    have e : b = it := by simpa using hb
    subst e
    exact ⟨_,st,fun v z => by
      have z' : Data.fields _ = Data.cell v := z
      cases z'⟩
  keep := fun i h h' st k => k it (by simp) _ st
  item := by
    intro X hP hw hK hc i pins s σ H E I hf st hg
    subst hP hw hK
    obtain ⟨f0,f1,f2,f3,f4,f5⟩ := hf it (by simp)
    have W := Walks.range (prog := X.prog) (w := X.w) (I.ok.hd hc) it lo 1 n
    refine W.item i s _ _ hg st fun v h' tk hv st' kk => ?_
    obtain ⟨t,rfl⟩ := hv
    have I1 : Inv X pins σ H { s with heap := h',toks := tk } := I.turned (fun b o hb e => kk b o (by simpa using hb) e) f0 f1 f3 f4 f5
    refine ⟨_,rfl,go_of (s := { s with heap := h',toks := tk }) (n := "range_iterator") st' rfl rfl (by decide) ⟨.int (lo + i),H,I1,⟨t,?_⟩,⟨rfl,rfl⟩,st',fun b hb => (hf b hb).1⟩⟩
    rw [Int.mul_one]
  done := by
    intro X hP hw hK hc i pins s σ H E I hf st hg
    subst hP hw hK
    obtain ⟨f0,f1,f2,f3,f4,f5⟩ := hf it (by simp)
    exact wpAny_pyNext_range_end (I.ok.hd hc) st (by have : n ≤ i := hg; omega) fun h' eb => ⟨rfl,I.turned (t' := s.toks) (fun b o hb e => eb b o hb e) f0 f1 f3 f4 f5⟩
  self := fun _ _ _ _ _ st h => wpAny_pyIter_rangeiter st h
end L2
namespace L2
open PySem PySem.Spec PyProof.Rows
section
variable {X : Cx} {tg : Expr}
def iList (K : PySem.W.Frag) (tl : TE) : TI := fun σ H R => tl σ H fun x H1 => ∃ a,x = .ref a ∧ (∃ xs,SqL K H1 a xs) ∧ R (Itl K a) H1
theorem pi_list {l : Expr} {tl : TE} (hl : PE X l tl) : PI X tg l (iList X.K tl) := by
  intro pins s σ H R I h
  refine thn (hl pins s σ H _ I h) fun v s1 ⟨x,H1,I1,r1,q1⟩ => ?_
  obtain ⟨a,e,⟨xs,hq⟩,q⟩ := q1
  subst e
  cases r1
  obtain ⟨its,rv,p,hz⟩ := I1.list hq
  refine wpAny_pyIter_list p.isList ?_
  refine ⟨s1.heap.objs.size,[s1.heap.objs.size],_,_,H1,rfl,I1.kept (t' := s1.toks) fun b o e => Heap.get?_push_of_some _ e,turn_list a _,⟨_,Heap.get?_push_size _ rfl,rfl,rfl⟩,fun b hb => ?_,q⟩
  have e : b = s1.heap.objs.size := by simpa using hb
  subst e
  exact I1.fpOk (Nat.le_refl _) (I1.hok.fresh (Nat.le_refl _))
theorem range_it {pins : List (Addr × Obj)} {σ : St} {H : Hp} {s : Shared} {R : It → Hp → Prop} {E : Value → Shared → Prop} {lo hi : Int} {t u v : Tok} {tk : Nat} (I : Inv X pins σ H s) (h1 : -(2 ^ 62) ≤ lo) (h2 : lo < 2 ^ 62) (h3 : -(2 ^ 62) ≤ hi) (h4 : hi < 2 ^ 62)
    (q : R (Itr lo (hi - lo).toNat) H) : wpAny (model X.prog X.w) X.A (pyIter (.ref s.heap.objs.size)) (PIE X pins σ tg R) E { s with heap := s.heap.push { cls := .type "range",data := .fields #[.int lo t,.int hi u,.int 1 v] },toks := tk } := by
  refine wpAny_pyIter_range (IsRange.new ..) (small_one h1 h2 h3 h4) ?_
  have I1 : Inv X pins σ H { s with heap := s.heap.push { cls := .type "range",data := .fields #[.int lo t,.int hi u,.int 1 v] },toks := tk } := I.kept fun b o e => Heap.get?_push_of_some _ e
  refine ⟨(s.heap.push { cls := .type "range",data := .fields #[.int lo t,.int hi u,.int 1 v] }).objs.size,[(s.heap.push { cls := .type "range",data := .fields #[.int lo t,.int hi u,.int 1 v] }).objs.size],_,_,H,rfl,
    I1.kept (t' := tk) fun b o e => Heap.get?_push_of_some _ e,turn_range _ lo (hi - lo).toNat,?_,fun b hb => ?_,q⟩
  · have e1 : lo + ((0 : Nat) : Int) * 1 = lo := by simp
    have e2 : (((hi - lo).toNat : Nat) : Int) - ((0 : Nat) : Int) = Builtin.Range.rangeSize lo hi 1 := by rw [rangeSize_one]; split <;> omega
    show IsRangeIter _ _ (lo + ((0 : Nat) : Int) * 1) ((((hi - lo).toNat : Nat) : Int) - ((0 : Nat) : Int)) 1
    rw [e1,e2]
    exact Heap.get?_push_size _ rfl
  · have e : b = (s.heap.push { cls := .type "range",data := .fields #[.int lo t,.int hi u,.int 1 v] }).objs.size := by simpa using hb
    subst e
    exact I1.fpOk (Nat.le_refl _) (I1.hok.fresh (Nat.le_refl _))
def iRng1 (ta : TA) : TI := fun σ H R => ta σ H fun vs H1 => ∃ j : Int,vs = [.int j] ∧ -(2 ^ 62) ≤ j ∧ j < 2 ^ 62 ∧ R (Itr 0 j.toNat) H1
theorem pi_range1 {a : Expr} {ta : TA} {p pos : Pos} (hg : Gl X "range") (hm : X.mg "range" = none) (ha : PA X [a] ta) (hs : starEach [a] X.env = [(false,eval a X.env)] := by rfl) : PI X tg (.Call (.Name "range" p) [a] [] pos) (iRng1 ta) := by
  intro pins s σ H R I h
  refine Call_ (ld_blt I hg hm boot_range (PyProof.Rows.callWith_type1 (thn (ha pos pins s σ H _ I h) fun us s1 ⟨vs,H1,I1,r1,q1⟩ => ?_) hs rfl))
  obtain ⟨j,e,q1,q2,q⟩ := q1
  subst e
  cases r1 with
  | cons r rr =>
    cases rr
    obtain ⟨t,rfl⟩ := r
    exact call_range_1 (range_it I1 (by omega) (by omega) q1 q2 (by simpa using q))
def tFor (wi : TI) (g : TG) (tb : TS) : TS := fun D σ H => wi σ H fun J H1 => ∃ W : Nat → Nat → St → Hp → Prop,(∃ m,W 0 m σ H1) ∧ ∀ i m σ H,W i m σ H →
  (J.stop i H ∧ D.nx σ H) ∨ (J.go i H ∧ ∃ N : St → Hp → Prop,(∀ σ' H',N σ' H' → ∃ m',m' < m ∧ W (i + 1) m' σ' H') ∧ ∀ x H',J.yld i H x H' → g x σ H' fun σ2 H2 => tb { D with nx := N,ct := N,bk := D.nx } σ2 H2)
def pinsAt (fp : List Addr) (h : Heap) : List (Addr × Obj) := fp.filterMap fun b => (h.get? b).map fun o => (b,o)
theorem mem_pinsAt {fp : List Addr} {h : Heap} {b : Addr} {o : Obj} (hb : b ∈ fp) (e : h.get? b = some o) : (b,o) ∈ pinsAt fp h := List.mem_filterMap.mpr ⟨b,hb,by rw [e]; rfl⟩
theorem of_pinsAt {fp : List Addr} {h : Heap} {p : Addr × Obj} (hp : p ∈ pinsAt fp h) : p.1 ∈ fp ∧ h.get? p.1 = some p.2 := by
  obtain ⟨b,hb,e⟩ := List.mem_filterMap.mp hp
  cases q : h.get? b with
  | none => rw [q] at e; cases e
  | some o =>
    rw [q] at e
    have e' : (b,o) = p := Option.some.inj e
    subst e'
    exact ⟨hb,q⟩
theorem Inv.pinned {pins : List (Addr × Obj)} {σ : St} {H : Hp} {s : Shared} {fp : List Addr} (I : Inv X pins σ H s) (hf : ∀ b ∈ fp,FpOk X pins H b) (ho : ∀ b ∈ fp,∃ o,s.heap.get? b = some o ∧ ∀ v,o.data ≠ .cell v) : Inv X (pins ++ pinsAt fp s.heap) σ H s :=
  I.pins_of fun p hp => (List.mem_append.mp hp).elim (fun z => I.pin p (List.mem_append_right _ z)) fun z => by
    obtain ⟨hb,e⟩ := of_pinsAt z
    obtain ⟨f0,f1,f2,_⟩ := hf p.1 hb
    obtain ⟨o,e',d⟩ := ho p.1 hb
    rw [e] at e'; cases e'
    exact ⟨e,f0,f1,f2,d⟩
theorem Inv.unpinned {pins pl : List (Addr × Obj)} {σ : St} {H : Hp} {s : Shared} (I : Inv X (pins ++ pl) σ H s) : Inv X pins σ H s := I.pins_of fun p hp => I.pin p (List.mem_append_right _ (List.mem_append_left _ hp))
theorem ps_for {iter : Expr} {body : List Stmt} {wi : TI} {g : TG} {tb : TS} {pos : Pos} (hp : PassesOwn (model X.prog X.w) X.A X.env X.xe) (hc : X.calm = true) (hi : PI X tg iter wi) (hg : PG X tg g) (hb : PSs X body tb)
    (hs : ∀ x,foldedSetIterable iter X.env x = pure x := by intro _; rfl) : PS X (.For tg iter body [] pos) (tFor wi g tb) := by
  intro pins s σ H D I h
  refine wpAny_For (thn (hi pins s σ H _ I h) fun v s1 h1 => thn h1 fun itv s2 h2 => ?_) hs
  obtain ⟨it,fp,tn,J,H2,e,I2,T,st2,f2,W,⟨m0,w0⟩,turn⟩ := h2
  subst e
  have stat : ∀ {H' : Hp},(∀ b ∈ fp,H' b = none) → ∀ b ∈ fp,FpOk X pins H' b := fun hn b hb => ⟨hn b hb,(f2 b hb).2⟩
  refine codeAny_forLoop_any (fun n s' => ∃ i σ' H',Inv X pins σ' H' s' ∧ tn i s'.heap ∧ (∀ b ∈ fp,H' b = none) ∧ W i n σ' H') ?_ m0 ⟨0,σ,H2,I2,st2,fun b hb => (f2 b hb).1,w0⟩
  rintro n s3 ⟨i,σ3,H3,I3,st3,fr3,w3⟩
  rcases turn i n σ3 H3 w3 with ⟨stop,qn⟩ | ⟨go,N,hN,step⟩
  · refine wpAny_passesOwn hp (thn (T.done X rfl rfl rfl hc i pins s3 σ3 H3 X.xe I3 (stat fr3) st3 stop) fun r s4 ⟨hr,I4⟩ => ?_)
    subst hr
    exact wpAny_execs_nil ⟨σ3,H3,I4,qn⟩
  · refine wpAny_passesOwn hp (thn (T.item X rfl rfl rfl hc i pins s3 σ3 H3 X.xe I3 (stat fr3) st3 go) fun r s4 ⟨u,hr,h4⟩ => ?_)
    subst hr
    refine wpAny_passesOwn hp (thn h4 fun _ s5 ⟨x,H5,I5,r5,y5,st5,fr5⟩ => ?_)
    have I5' := I5.pinned (stat fr5) (T.obj _ _ st5)
    refine wpAny_passesOwn hp (thn (hg _ s5 σ3 H5 x u _ I5' r5 (step x H5 y5)) fun _ s6 ⟨σ6,H6,I6,q6⟩ => ?_)
    refine wpAny_passesOwn hp (thn (hb _ s6 σ6 H6 _ I6 q6) fun f s7 q7 => ?_)
    have again : ∀ {σ7 : St} {H7 : Hp},Inv X (pins ++ pinsAt fp s5.heap) σ7 H7 s7 → N σ7 H7 → ∃ m,m < n ∧ ∃ i σ' H',Inv X pins σ' H' s7 ∧ tn i s7.heap ∧ (∀ b ∈ fp,H' b = none) ∧ W i m σ' H' := fun {σ7 H7} I7 n7 => by
      obtain ⟨m',hm,w7⟩ := hN σ7 H7 n7
      refine ⟨m',hm,i + 1,σ7,H7,I7.unpinned,T.keep _ _ _ st5 fun b hb o e => (I7.pin (b,o) (List.mem_append_right _ (List.mem_append_right _ (mem_pinsAt hb e)))).1,fun b hb => ?_,w7⟩
      obtain ⟨o,e,d⟩ := T.obj _ _ st5 b hb
      exact (I7.pin (b,o) (List.mem_append_right _ (List.mem_append_right _ (mem_pinsAt hb e)))).2.1
    cases f with
    | next => obtain ⟨σ7,H7,I7,n7⟩ := q7; exact again I7 n7
    | cont => obtain ⟨σ7,H7,I7,n7⟩ := q7; exact again I7 n7
    | brk => obtain ⟨σ7,H7,I7,q7⟩ := q7; exact ⟨σ7,H7,I7.unpinned,q7⟩
    | ret v => obtain ⟨x7,σ7,H7,I7,r7,q7⟩ := q7; exact ⟨x7,σ7,H7,I7.unpinned,r7,q7⟩
end
theorem for_list {K : PySem.W.Frag} {a : Addr} {xs : List V} {g : TG} {tb : TS} {D : Ends} {σ : St} {H : Hp} (Pv : Nat → St → Hp → Prop) (h0 : Pv 0 σ H) (hl : ∀ i σ H,i ≤ xs.length → Pv i σ H → SqL K H a xs)
    (hs : ∀ i x σ H,xs[i]? = some x → Pv i σ H → g x σ H fun σ2 H2 => tb { D with nx := Pv (i + 1),ct := Pv (i + 1),bk := D.nx } σ2 H2) (hd : ∀ σ H,Pv xs.length σ H → D.nx σ H) :
    ∃ W : Nat → Nat → St → Hp → Prop,(∃ m,W 0 m σ H) ∧ ∀ i m σ H,W i m σ H →
      ((Itl K a).stop i H ∧ D.nx σ H) ∨ ((Itl K a).go i H ∧ ∃ N : St → Hp → Prop,(∀ σ' H',N σ' H' → ∃ m',m' < m ∧ W (i + 1) m' σ' H') ∧ ∀ x H',(Itl K a).yld i H x H' → g x σ H' fun σ2 H2 => tb { D with nx := N,ct := N,bk := D.nx } σ2 H2) := by
  refine ⟨fun i m σ H => m = xs.length - i ∧ i ≤ xs.length ∧ Pv i σ H,⟨xs.length,by simp,Nat.zero_le _,h0⟩,?_⟩
  rintro i m σ H ⟨rfl,hi,p⟩
  have q := hl i σ H hi p
  by_cases hlt : i < xs.length
  · refine .inr ⟨⟨xs,xs[i],q,by simp [hlt]⟩,Pv (i + 1),fun σ' H' p' => ⟨xs.length - (i + 1),by omega,rfl,hlt,p'⟩,fun x H' y => ?_⟩
    obtain ⟨e,y⟩ := y
    subst e
    exact hs i x σ _ (y xs q) p
  · have e : i = xs.length := by omega
    subst e
    exact .inl ⟨⟨xs,q,Nat.le_refl _⟩,hd σ H p⟩
theorem for_range {lo : Int} {n : Nat} {g : TG} {tb : TS} {D : Ends} {σ : St} {H : Hp} (Pv : Nat → St → Hp → Prop) (h0 : Pv 0 σ H)
    (hs : ∀ i σ H,i < n → Pv i σ H → g (.int (lo + i)) σ H fun σ2 H2 => tb { D with nx := Pv (i + 1),ct := Pv (i + 1),bk := D.nx } σ2 H2) (hd : ∀ σ H,Pv n σ H → D.nx σ H) :
    ∃ W : Nat → Nat → St → Hp → Prop,(∃ m,W 0 m σ H) ∧ ∀ i m σ H,W i m σ H →
      ((Itr lo n).stop i H ∧ D.nx σ H) ∨ ((Itr lo n).go i H ∧ ∃ N : St → Hp → Prop,(∀ σ' H',N σ' H' → ∃ m',m' < m ∧ W (i + 1) m' σ' H') ∧ ∀ x H',(Itr lo n).yld i H x H' → g x σ H' fun σ2 H2 => tb { D with nx := N,ct := N,bk := D.nx } σ2 H2) := by
  refine ⟨fun i m σ H => m = n - i ∧ i ≤ n ∧ Pv i σ H,⟨n,by simp,Nat.zero_le _,h0⟩,?_⟩
  rintro i m σ H ⟨rfl,hi,p⟩
  by_cases hlt : i < n
  · refine .inr ⟨hlt,Pv (i + 1),fun σ' H' p' => ⟨n - (i + 1),by omega,rfl,hlt,p'⟩,fun x H' y => ?_⟩
    obtain ⟨e,y⟩ := y
    subst e y
    exact hs i σ _ hlt p
  · have e : i = n := by omega
    subst e
    exact .inl ⟨Nat.le_refl _,hd σ H p⟩
theorem while_by {c : TT} {tb : TS} {D : Ends} {σ : St} {H : Hp} (Pv : St → Hp → Prop) (μ : St → Hp → Nat) (h0 : Pv σ H)
    (hs : ∀ σ H,Pv σ H → c σ H fun b H1 => if b = true then tb { D with nx := fun σ' H' => Pv σ' H' ∧ μ σ' H' < μ σ H,ct := fun σ' H' => Pv σ' H' ∧ μ σ' H' < μ σ H,bk := D.nx } σ H1 else D.nx σ H1)
    (mono : ∀ σ H Q Q',(∀ b H1,Q b H1 → Q' b H1) → c σ H Q → c σ H Q') : tWhile c tb D σ H := by
  refine ⟨fun m σ H => m = μ σ H ∧ Pv σ H,⟨_,rfl,h0⟩,?_⟩
  rintro m σ H ⟨rfl,p⟩
  refine mono σ H _ _ (fun b H1 q => ?_) (hs σ H p)
  cases b with
  | true => exact ⟨_,fun σ' H' ⟨p',l⟩ => ⟨_,l,rfl,p'⟩,q⟩
  | false => exact q
end L2
namespace L2
open PySem PySem.Spec PyProof.Rows
abbrev R2 := V → V → Hp → VK → Prop
def OpR (X : Cx) (f : Value → Value → Sem Value) (r : R2) : Prop :=
  ∀ (pins : List (Addr × Obj)) (s : Shared) (σ : St) (H : Hp) (x y : V) (v u : Value) (Q : VK),Inv X pins σ H s → RelV x v → RelV y u → r x y H Q →
    wpAny (model X.prog X.w) X.A (f v u) (EP X pins σ Q) X.xe s
def UnR (X : Cx) (f : Value → Sem Value) (r : V → Hp → VK → Prop) : Prop :=
  ∀ (pins : List (Addr × Obj)) (s : Shared) (σ : St) (H : Hp) (x : V) (v : Value) (Q : VK),Inv X pins σ H s → RelV x v → r x H Q →
    wpAny (model X.prog X.w) X.A (f v) (EP X pins σ Q) X.xe s
def CallR (X : Cx) (f : Value) (r : List V → Hp → VK → Prop) : Prop :=
  ∀ (pins : List (Addr × Obj)) (s : Shared) (σ : St) (H : Hp) (xs : List V) (us : List Value) (Q : VK),Inv X pins σ H s → Vals xs us → r xs H Q →
    wpAny (model X.prog X.w) X.A (call f us) (EP X pins σ Q) X.xe s
def tOp (r : R2) (ta tb : TE) : TE := fun σ H Q => ta σ H fun x H1 => tb σ H1 fun y H2 => r x y H2 Q
def tUn (r : V → Hp → VK → Prop) (ta : TE) : TE := fun σ H Q => ta σ H fun x H1 => r x H1 Q
inductive rI (C : Int → Int → Prop) (g : Int → Int → V) (x y : V) (H : Hp) (Q : VK) : Prop
  | mk (i j : Int) (e : x = .int i) (f : y = .int j) (c : C i j) (q : Q (g i j) H) : rI C g x y H Q
inductive rI0 (g : Int → Int → V) (x y : V) (H : Hp) (Q : VK) : Prop
  | mk (i j : Int) (e : x = .int i) (f : y = .int j) (q : Q (g i j) H) : rI0 g x y H Q
def rU (g : Int → V) : V → Hp → VK → Prop := fun x H Q => ∃ i,x = .int i ∧ Q (g i) H
section
variable {X : Cx} {a b c : Expr} {ta tb tc : TE} {pos : Pos}
theorem binT (ha : PE X a ta) (hb : PE X b tb) {pins : List (Addr × Obj)} {s : Shared} {σ : St} {H : Hp} {R : V → V → Hp → Prop} (I : Inv X pins σ H s)
    (h : ta σ H fun x H1 => tb σ H1 fun y H2 => R x y H2) {Q : Value → Shared → Prop} {f : Value → Value → Sem Value}
    (hf : ∀ v u s2 x y H2,Inv X pins σ H2 s2 → RelV x v → RelV y u → R x y H2 → wpAny (model X.prog X.w) X.A (f v u) Q X.xe s2) :
    wpAny (model X.prog X.w) X.A (eval a X.env) (fun v s₁ => wpAny (model X.prog X.w) X.A (eval b X.env) (fun u s₂ => wpAny (model X.prog X.w) X.A (f v u) Q X.xe s₂) X.xe s₁) X.xe s := by
  refine thn (ha pins s σ H _ I h) fun v s1 ⟨x,H1,I1,r1,q1⟩ => ?_
  refine thn (hb pins s1 σ H1 _ I1 q1) fun u s2 ⟨y,H2,I2,r2,q2⟩ => ?_
  exact hf v u s2 x y H2 I2 r1 r2 q2
theorem pe_op {op : Operator} {r : R2} (ho : OpR X (binaryOp op) r) (ha : PE X a ta) (hb : PE X b tb) : PE X (.BinOp a op b pos) (tOp r ta tb) := by
  intro pins s σ H Q I h
  exact wpAny_BinOp (binT ha hb I h fun v u s2 x y H2 I2 rx ry q => ho pins s2 σ H2 x y v u Q I2 rx ry q)
theorem pe_un {op : UnaryOp} {r : V → Hp → VK → Prop} (ho : UnR X (unaryOp op) r) (ha : PE X a ta) : PE X (.UnaryOp op a pos) (tUn r ta) := by
  intro pins s σ H Q I h
  exact UnaryOp_ (thn (ha pins s σ H _ I h) fun v s1 ⟨x,H1,I1,r1,q1⟩ => ho pins s1 σ H1 x v Q I1 r1 q1)
theorem opI {f : Value → Value → Sem Value} {C : Int → Int → Prop} {g : Int → Int → Int}
    (rule : ∀ (i j : Int) (t u : Tok) (s : Shared) (Q : Value → Shared → Prop) (E : Value → Shared → Prop),C i j → Q (.int (g i j) s.toks) { s with toks := s.toks + 1 } → wpAny (model X.prog X.w) X.A (f (.int i t) (.int j u)) Q E s) :
    OpR X f (rI C fun i j => .int (g i j)) := by
  intro pins s σ H x y v u Q I rx ry h
  obtain ⟨i,j,rfl,rfl,hc,q⟩ := h
  obtain ⟨t,rfl⟩ := rx
  obtain ⟨t',rfl⟩ := ry
  exact rule i j t t' s _ _ hc ⟨.int (g i j),H,I.tok _,⟨_,rfl⟩,q⟩
theorem opI0 {f : Value → Value → Sem Value} {g : Int → Int → Int}
    (rule : ∀ (i j : Int) (t u : Tok) (s : Shared) (Q : Value → Shared → Prop) (E : Value → Shared → Prop),Q (.int (g i j) s.toks) { s with toks := s.toks + 1 } → wpAny (model X.prog X.w) X.A (f (.int i t) (.int j u)) Q E s) :
    OpR X f (rI0 fun i j => .int (g i j)) := by
  intro pins s σ H x y v u Q I rx ry h
  obtain ⟨i,j,rfl,rfl,q⟩ := h
  obtain ⟨t,rfl⟩ := rx
  obtain ⟨t',rfl⟩ := ry
  exact rule i j t t' s _ _ ⟨.int (g i j),H,I.tok _,⟨_,rfl⟩,q⟩
theorem opB0 {f : Value → Value → Sem Value} {g : Int → Int → Bool}
    (rule : ∀ (i j : Int) (t u : Tok) (s : Shared) (Q : Value → Shared → Prop) (E : Value → Shared → Prop),Q (.bool (g i j)) s → wpAny (model X.prog X.w) X.A (f (.int i t) (.int j u)) Q E s) :
    OpR X f (rI0 fun i j => .bl (g i j)) := by
  intro pins s σ H x y v u Q I rx ry h
  obtain ⟨i,j,rfl,rfl,q⟩ := h
  obtain ⟨t,rfl⟩ := rx
  obtain ⟨t',rfl⟩ := ry
  exact rule i j t t' s _ _ ⟨.bl (g i j),H,I,rfl,q⟩
def CPow (i j : Int) : Prop := 0 ≤ j ∧ j ≤ 1000000 ∧ i.natAbs < 2 ^ 64
def CMul (i j : Int) : Prop := (-(2 ^ 64) < i ∧ i < 2 ^ 64) ∨ (-(2 ^ 64) < j ∧ j < 2 ^ 64)
theorem CMul.ok {i j : Int} (h : CMul i j) : IntMulOk i j := by
  rcases h with ⟨h1,h2⟩ | ⟨h1,h2⟩
  · exact .of_left (intBits_le_64 h1 h2)
  · exact .of_right (intBits_le_64 h1 h2)
theorem op_add : OpR X (binaryOp .Add) (rI0 fun i j => .int (i + j)) := opI0 fun _ _ _ _ _ _ _ q => add_int q
theorem op_sub : OpR X (binaryOp .Sub) (rI0 fun i j => .int (i - j)) := opI0 fun _ _ _ _ _ _ _ q => sub_int q
theorem op_mod : OpR X (binaryOp .Mod) (rI (fun _ j => 0 < j) fun i j => .int (i % j)) := opI fun i j _ _ _ _ _ hc q => by
  have h1 : (0 : Int) < j := hc
  exact mod_int' (by omega) (by rw [Int.fmod_eq_emod_of_nonneg i (by omega)]; exact q)
theorem op_pow : OpR X (binaryOp .Pow) (rI CPow fun i j => .int (i ^ j.toNat)) := opI fun _ _ _ _ _ _ _ hc q => pow_int_small hc.1 hc.2.1 hc.2.2 q
theorem unI {f : Value → Sem Value} {g : Int → Int}
    (rule : ∀ (i : Int) (t : Tok) (s : Shared) (Q : Value → Shared → Prop) (E : Value → Shared → Prop),Q (.int (g i) s.toks) { s with toks := s.toks + 1 } → wpAny (model X.prog X.w) X.A (f (.int i t)) Q E s) :
    UnR X f (rU fun i => .int (g i)) := by
  intro pins s σ H x v Q I rx h
  obtain ⟨i,rfl,q⟩ := h
  obtain ⟨t,rfl⟩ := rx
  exact rule i t s _ _ ⟨.int (g i),H,I.tok _,⟨_,rfl⟩,q⟩
theorem un_neg : UnR X (unaryOp .USub) (rU fun i => .int (-i)) := unI fun _ _ _ _ _ q => neg_int q
end
def scal : V → V → Bool
  | .non,.non => true | .non,.int _ => true | .int _,.non => true | .non,.bl _ => true | .bl _,.non => true | .non,.str _ => true | .str _,.non => true
  | .int _,.int _ => true | .bl _,.bl _ => true | .str _,.str _ => true | .byt _,.byt _ => true
  | .int _,.str _ => true | .str _,.int _ => true | .bl _,.str _ => true | .str _,.bl _ => true
  | _,_ => false
inductive rEq (x y : V) (H : Hp) (Q : VK) : Prop
  | mk (s : scal x y = true) (q : Q (.bl (decide (x = y))) H) : rEq x y H Q
inductive rNe (x y : V) (H : Hp) (Q : VK) : Prop
  | mk (s : scal x y = true) (q : Q (.bl (!decide (x = y))) H) : rNe x y H Q
theorem dec_int {i j : Int} : decide (V.int i = V.int j) = (i == j) := by
  rw [Bool.eq_iff_iff]
  simp
theorem dec_bl {i j : Bool} : decide (V.bl i = V.bl j) = (i == j) := by
  rw [Bool.eq_iff_iff]
  simp
theorem dec_str {i j : Str} : decide (V.str i = V.str j) = (i == j) := by
  rw [Bool.eq_iff_iff]
  simp
theorem dec_byt {i j : Array UInt8} : decide (V.byt i = V.byt j) = (i.toList == j.toList) := by
  rw [Bool.eq_iff_iff]
  cases i
  cases j
  simp
section
variable {X : Cx} {a b c : Expr} {ta tb tc : TE} {pos : Pos}
theorem fin_bl {pins : List (Addr × Obj)} {σ : St} {H : Hp} {s : Shared} {Q : VK} {k k' : Bool} (I : Inv X pins σ H s) (q : Q (.bl k) H) (e : k = k') : EP X pins σ Q (.bool k') s := by
  subst e
  exact ⟨.bl k,H,I,rfl,q⟩
theorem op_eq : OpR X (compareOp .Eq) rEq := by
  intro pins s σ H x y v u Q I rx ry h
  obtain ⟨hs,q⟩ := h
  cases x with
  | non =>
    cases rx
    cases y with
    | non => cases ry; exact PySem.EqNone.eq_none_none (fin_bl I q (by simp))
    | bl j => cases ry; exact PySem.EqNone.eq_none_bool (fin_bl I q (by simp))
    | int j => obtain ⟨t',rfl⟩ := ry; exact PySem.EqNone.eq_none_int (fin_bl I q (by simp))
    | str j => obtain ⟨t',rfl⟩ := ry; exact PySem.EqNone.eq_none_str (fin_bl I q (by simp))
    | _ => exact absurd (show false = true from hs) Bool.false_ne_true
  | bl i =>
    cases rx
    cases y with
    | non => cases ry; exact PySem.EqNone.eq_bool_none (fin_bl I q (by simp))
    | bl j => cases ry; exact eq_bool (fin_bl I q dec_bl)
    | str j => obtain ⟨t',rfl⟩ := ry; exact PySem.EqMixed.eq_bool_str (fin_bl I q (by simp))
    | _ => exact absurd (show false = true from hs) Bool.false_ne_true
  | int i =>
    obtain ⟨t,rfl⟩ := rx
    cases y with
    | non => cases ry; exact PySem.EqNone.eq_int_none (fin_bl I q (by simp))
    | int j => obtain ⟨t',rfl⟩ := ry; exact eq_int (fin_bl I q dec_int)
    | str j => obtain ⟨t',rfl⟩ := ry; exact PySem.EqMixed.eq_int_str (fin_bl I q (by simp))
    | _ => exact absurd (show false = true from hs) Bool.false_ne_true
  | str i =>
    obtain ⟨t,rfl⟩ := rx
    cases y with
    | non => cases ry; exact PySem.EqNone.eq_str_none (fin_bl I q (by simp))
    | bl j => cases ry; exact PySem.EqMixed.eq_str_bool (fin_bl I q (by simp))
    | int j => obtain ⟨t',rfl⟩ := ry; exact PySem.EqMixed.eq_str_int (fin_bl I q (by simp))
    | str j => obtain ⟨t',rfl⟩ := ry; exact eq_str (fin_bl I q dec_str)
    | _ => exact absurd (show false = true from hs) Bool.false_ne_true
  | byt i =>
    obtain ⟨t,rfl⟩ := rx
    cases y with
    | byt j => obtain ⟨t',rfl⟩ := ry; exact PySem.W.eq_bytes (fin_bl I q dec_byt)
    | _ => exact absurd (show false = true from hs) Bool.false_ne_true
  | _ => cases y <;> exact absurd (show false = true from hs) Bool.false_ne_true
theorem op_ne : OpR X (compareOp .NotEq) rNe := by
  intro pins s σ H x y v u Q I rx ry h
  obtain ⟨hs,q⟩ := h
  cases x with
  | non =>
    cases rx
    cases y with
    | non => cases ry; exact PySem.EqNone.ne_none_none (fin_bl I q (by simp))
    | bl j => cases ry; exact PySem.EqNone.ne_none_bool (fin_bl I q (by simp))
    | int j => obtain ⟨t',rfl⟩ := ry; exact PySem.EqNone.ne_none_int (fin_bl I q (by simp))
    | str j => obtain ⟨t',rfl⟩ := ry; exact PySem.EqNone.ne_none_str (fin_bl I q (by simp))
    | _ => exact absurd (show false = true from hs) Bool.false_ne_true
  | bl i =>
    cases rx
    cases y with
    | non => cases ry; exact PySem.EqNone.ne_bool_none (fin_bl I q (by simp))
    | bl j => cases ry; exact ne_bool (fin_bl I q (congrArg not dec_bl))
    | str j => obtain ⟨t',rfl⟩ := ry; exact PySem.EqMixed.ne_bool_str (fin_bl I q (by simp))
    | _ => exact absurd (show false = true from hs) Bool.false_ne_true
  | int i =>
    obtain ⟨t,rfl⟩ := rx
    cases y with
    | non => cases ry; exact PySem.EqNone.ne_int_none (fin_bl I q (by simp))
    | int j => obtain ⟨t',rfl⟩ := ry; exact ne_int (fin_bl I q (congrArg not dec_int))
    | str j => obtain ⟨t',rfl⟩ := ry; exact PySem.EqMixed.ne_int_str (fin_bl I q (by simp))
    | _ => exact absurd (show false = true from hs) Bool.false_ne_true
  | str i =>
    obtain ⟨t,rfl⟩ := rx
    cases y with
    | non => cases ry; exact PySem.EqNone.ne_str_none (fin_bl I q (by simp))
    | bl j => cases ry; exact PySem.EqMixed.ne_str_bool (fin_bl I q (by simp))
    | int j => obtain ⟨t',rfl⟩ := ry; exact PySem.EqMixed.ne_str_int (fin_bl I q (by simp))
    | str j => obtain ⟨t',rfl⟩ := ry; exact ne_str (fin_bl I q (congrArg not dec_str))
    | _ => exact absurd (show false = true from hs) Bool.false_ne_true
  | byt i =>
    obtain ⟨t,rfl⟩ := rx
    cases y with
    | byt j => obtain ⟨t',rfl⟩ := ry; exact PySem.W.ne_bytes (fin_bl I q (congrArg not dec_byt))
    | _ => exact absurd (show false = true from hs) Bool.false_ne_true
  | _ => cases y <;> exact absurd (show false = true from hs) Bool.false_ne_true
theorem op_lt : OpR X (compareOp .Lt) (rI0 fun i j => .bl (decide (i < j))) := opB0 fun _ _ _ _ _ _ _ q => lt_int q
theorem op_le : OpR X (compareOp .LtE) (rI0 fun i j => .bl (decide (i ≤ j))) := opB0 fun _ _ _ _ _ _ _ q => le_int q
theorem op_gt : OpR X (compareOp .Gt) (rI0 fun i j => .bl (decide (j < i))) := opB0 fun _ _ _ _ _ _ _ q => gt_int q
theorem op_ge : OpR X (compareOp .GtE) (rI0 fun i j => .bl (decide (j ≤ i))) := opB0 fun _ _ _ _ _ _ _ q => ge_int q
theorem op_isN : OpR X (compareOp .Is) (fun x y H Q => y = .non ∧ Q (.bl (decide (x = .non))) H) := by
  intro pins s σ H x y v u Q I rx ry h
  obtain ⟨rfl,q⟩ := h
  cases ry
  refine is_none_gen (fin_bl I q ?_)
  cases x <;> first
    | (cases rx; rfl)
    | (obtain ⟨t,rfl⟩ := rx; rfl)
theorem op_notN : OpR X (compareOp .IsNot) (fun x y H Q => y = .non ∧ Q (.bl (!decide (x = .non))) H) := by
  intro pins s σ H x y v u Q I rx ry h
  obtain ⟨rfl,q⟩ := h
  cases ry
  refine isnot_none_gen (fin_bl I q ?_)
  cases x <;> first
    | (cases rx; rfl)
    | (obtain ⟨t,rfl⟩ := rx; rfl)
theorem nomark (b : Expr) {op : CmpOp} (h : op ≠ .In := by decide) (h2 : op ≠ .NotIn := by decide) : behindInMarks op b = false := by
  have e1 : (op == CmpOp.In) = false := by cases op <;> first | rfl | exact absurd rfl h
  have e2 : (op == CmpOp.NotIn) = false := by cases op <;> first | rfl | exact absurd rfl h2
  cases b <;> simp [behindInMarks,e1,e2]
theorem pe_cmpR {op : CmpOp} {r : R2} (ho : OpR X (compareOp op) r) (ha : PE X a ta) (hb : PE X b tb) (hm : behindInMarks op b = false) : PE X (.Compare a [op] [b] pos) (tOp r ta tb) := by
  intro pins s σ H Q I h
  exact wpAny_Compare1 (binT ha hb I h fun v u s2 x y H2 I2 rx ry q => ho pins s2 σ H2 x y v u Q I2 rx ry q) hm
inductive isB (x : V) (H : Hp) (Q : Bool → Hp → Prop) : Prop
  | mk (k : Bool) (e : x = .bl k) (q : Q k H) : isB x H Q
def tTest (t : TE) : TT := fun σ H Q => t σ H fun x H' => isB x H' Q
theorem pt_cmpR {op : CmpOp} {r : R2} (ho : OpR X (compareOp op) r) (ha : PE X a ta) (hb : PE X b tb) (hm : behindInMarks op b = false) : PT X (.Compare a [op] [b] pos) (tTest (tOp r ta tb)) := by
  intro pins s σ H Q I h
  refine wpAny_isTrue_Compare1 (thn (ha pins s σ H _ I h) fun v s1 ⟨x,H1,I1,r1,q1⟩ => thn (hb pins s1 σ H1 _ I1 q1) fun u s2 ⟨y,H2,I2,r2,q2⟩ =>
    thn (ho pins s2 σ H2 x y v u _ I2 r1 r2 q2) fun c s3 ⟨z,H3,I3,r3,k,e,q3⟩ => ?_) hm
  subst e
  cases r3
  exact wpAny_truthy_bool ⟨H3,I3,q3⟩
def tChain (r r' : R2) (ta tb tc : TE) : TE := fun σ H Q => ta σ H fun x H1 => tb σ H1 fun y H2 => r x y H2 fun z H3 => ∃ k,z = .bl k ∧
  (if k = true then tc σ H3 fun w' H4 => r' y w' H4 Q else Q (.bl false) H3)
theorem pe_chain {op op' : CmpOp} {r r' : R2} (ho : OpR X (compareOp op) r) (ho' : OpR X (compareOp op') r') (ha : PE X a ta) (hb : PE X b tb) (hc : PE X c tc)
    (hm : lastMarks [op,op'] [b,c] = false := by with_unfolding_all rfl) : PE X (.Compare a [op,op'] [b,c] pos) (tChain r r' ta tb tc) := by
  intro pins s σ H Q I h
  refine Compare_chain (thn (ha pins s σ H _ I h) fun v s1 ⟨x,H1,I1,r1,q1⟩ => chain_link (thn (hb pins s1 σ H1 _ I1 q1) fun u s2 ⟨y,H2,I2,r2,q2⟩ =>
    thn (ho pins s2 σ H2 x y v u _ I2 r1 r2 q2) fun d s3 ⟨z,H3,I3,r3,k,e,q3⟩ => ?_)) hm
  subst e
  cases r3
  refine wpAny_truthy_bool ?_
  cases k with
  | false => exact ite_ff ⟨.bl false,H3,I3,rfl,q3⟩
  | true => exact ite_tt (chain_last (thn (hc pins s3 σ H3 _ I3 q3) fun w' s4 ⟨z',H4,I4,r4,q4⟩ => ho' pins s4 σ H4 y z' u w' Q I4 r2 r4 q4))
theorem pt_chain {op op' : CmpOp} {r r' : R2} (ho : OpR X (compareOp op) r) (ho' : OpR X (compareOp op') r') (ha : PE X a ta) (hb : PE X b tb) (hc : PE X c tc)
    (hm : lastMarks [op,op'] [b,c] = false := by with_unfolding_all rfl) : PT X (.Compare a [op,op'] [b,c] pos) (tTest (tChain r r' ta tb tc)) := by
  intro pins s σ H Q I h
  refine isTrue_chain (thn (ha pins s σ H _ I h) fun v s1 ⟨x,H1,I1,r1,q1⟩ => test_link (thn (hb pins s1 σ H1 _ I1 q1) fun u s2 ⟨y,H2,I2,r2,q2⟩ =>
    thn (ho pins s2 σ H2 x y v u _ I2 r1 r2 q2) fun d s3 ⟨z,H3,I3,r3,k,e,q3⟩ => ?_)) hm
  subst e
  cases r3
  refine wpAny_truthy_bool ?_
  cases k with
  | false =>
    obtain ⟨k',e',q'⟩ := q3
    cases e'
    exact ite_ff ⟨H3,I3,q'⟩
  | true =>
    refine ite_tt (test_last (thn (hc pins s3 σ H3 _ I3 q3) fun w' s4 ⟨z',H4,I4,r4,q4⟩ => thn (ho' pins s4 σ H4 y z' u w' _ I4 r2 r4 q4) fun d' s5 ⟨z2,H5,I5,r5,k2,e2,q5⟩ => ?_))
    subst e2
    cases r5
    exact wpAny_truthy_bool ⟨H5,I5,q5⟩
theorem line63 : (sizeLine : Nat) < 2 ^ 63 := by rw [sizeLine_eq]; decide
theorem op_add_str : OpR X (binaryOp .Add) (fun x y H Q => ∃ i j,x = .str i ∧ y = .str j ∧ i.length + j.length ≤ sizeLine ∧ Q (.str (i ++ j)) H) := by
  intro pins s σ H x y v u Q I rx ry h
  obtain ⟨i,j,rfl,rfl,hz,q⟩ := h
  obtain ⟨t,rfl⟩ := rx
  obtain ⟨t',rfl⟩ := ry
  exact add_str (fun t' tk => ⟨.str (i ++ j),H,I.tok _,⟨_,rfl⟩,q⟩) hz
theorem vals1 {x : V} {us : List Value} (r : Vals [x] us) : ∃ u,us = [u] ∧ RelV x u := by
  cases r with
  | cons r1 r2 => cases r2; exact ⟨_,rfl,r1⟩
theorem vals2 {x y : V} {us : List Value} (r : Vals [x,y] us) : ∃ u w',us = [u,w'] ∧ RelV x u ∧ RelV y w' := by
  cases r with
  | cons r1 r2 =>
    cases r2 with
    | cons r3 r4 => cases r4; exact ⟨_,_,rfl,r1,r3⟩
theorem call_int1 : CallR X (.type "int") (fun xs H Q => (∃ i,xs = [.int i] ∧ Q (.int i) H) ∨ ∃ k,xs = [.bl k] ∧ Q (.int (if k then 1 else 0)) H) := by
  intro pins s σ H xs us Q I r h
  rcases h with ⟨i,rfl,q⟩ | ⟨k,rfl,q⟩
  · obtain ⟨u,rfl,t,rfl⟩ := vals1 r
    exact call_int_int ⟨.int i,H,I,⟨_,rfl⟩,q⟩
  · obtain ⟨u,rfl,r1⟩ := vals1 r
    cases r1
    exact call_int_bool ⟨.int (if k then 1 else 0),H,I.tok _,⟨_,rfl⟩,q⟩
end
end L2
namespace L2
open PySem PySem.Spec PyProof.Rows
structure ObjM (h : Heap) (x dx C : Addr) (mA : Str → Option Value) : Prop where
  obj : h.get? x = some (PySem.W.instObj C dx)
  ns : h.Ns1 dx mA
  ne : dx ≠ x
theorem lookIn_ns {h : Heap} {dx : Addr} {mA : Str → Option Value} (n : h.Ns1 dx mA) : ∃ od,h.get? dx = some od ∧ ∀ name,PySem.W.lookIn name od = some (mA name) := by
  obtain ⟨o,es,ep,ho,hd,hk,_,hm⟩ := n
  refine ⟨o,ho,fun name => ?_⟩
  have e := hm name
  unfold nsFind findBy at e
  rw [← Array.find?_toList] at e
  unfold PySem.W.lookIn
  rw [hd]
  dsimp only
  split
  · rename_i y q
    rw [q] at e
    exact congrArg some e
  · rename_i q
    rw [q] at e
    have a : es.toList.any (·.refKey) = false := by
      rw [List.any_eq_false]
      intro y hy
      obtain ⟨z,t,hkey⟩ := hk y (Array.mem_toList_iff.mp hy)
      simp [DictEntry.refKey,hkey]
    have a' : ¬ es.toList.any (·.refKey) = true := by rw [a]; exact Bool.false_ne_true
    rw [if_neg a']
    exact congrArg some e
theorem ObjM.look {h : Heap} {x dx C : Addr} {mA : Str → Option Value} (I : ObjM h x dx C mA) : ∃ od,PySem.W.InstAt h x (PySem.W.instObj C dx) C (some od) ∧ ∀ name,PySem.W.lookIn name od = some (mA name) :=
  let ⟨od,ho,hl⟩ := lookIn_ns I.ns
  ⟨od,⟨I.obj,rfl,rfl,ho⟩,hl⟩
section
variable {prog : Program} {w : World} {A : Around} {E : Value → Shared → Prop} {s : Shared} {K : PySem.W.Frag} {x dx C f : Addr} {mA : Str → Option Value} {name : Str} {v : Value}
theorem get_map {expr : Bool} {Q : Value → Shared → Prop} (X : K.In s.heap) (I : ObjM s.heap x dx C mA) (hg : PySem.W.plainGet K C name = true) (hh : PySem.W.hasDictIn K C = true)
    (ha : PySem.W.findIn K (.ref C) name = some none) (hv : mA name = some v) (hv' : PySem.W.handedIn v = true) (h : Q v { s with toks := s.toks + 1 }) :
    wpAny (model prog w) A (getAttr (.ref x) name expr) Q E s := by
  obtain ⟨od,J,hl⟩ := I.look
  exact PySem.W.get_value X J (PySem.W.plainGet_of hg).1 (PySem.W.findObj_own hh ha rfl (by rw [hl,hv])) hv' h
theorem get_meth {pl : Sem Bool} {Q : Value × List Value → Shared → Prop} (X : K.In s.heap) (I : ObjM s.heap x dx C mA) (hg : PySem.W.plainGet K C name = true)
    (hf : PySem.W.findIn K (.ref C) name = some (some (.ref f))) (ht : PySem.W.isFn K (.ref f) = true) (hv : mA name = none) (h : Q (.ref f,[.ref x]) s) :
    wpAny (model prog w) A (getMethod (.ref x) name pl) Q E s := by
  obtain ⟨od,J,hl⟩ := I.look
  exact PySem.W.method_fn X J (PySem.W.plainGet_of hg).1 (PySem.W.plainGet_of hg).2 hf (beq_iff_eq.mp ht) (by show (PySem.W.lookIn name od).map (·.isSome) = some false; rw [hl,hv]; rfl) h
theorem set_map {ns : List Str} {Q : Unit → Shared → Prop} (X : K.In s.heap) (I : ObjM s.heap x dx C mA)
    (hs : PySem.W.findIn K (.ref C) "__setattr__" = some (some (.builtin "object.__setattr__"))) (hp : PySem.W.plainOver K C = true) (ht : PySem.W.takerIn K C name = some none) (hh : PySem.W.hasDictIn K C = true)
    (hw : PySem.Within mA ns) (hsz : ns.length ≤ sizeLine)
    (h : ∀ h',ObjM h' x dx C (fun y => if y = name then some v else mA y) → Heap.SameBut dx s.heap h' → Q () { s with heap := h',toks := s.toks + 2 }) :
    wpAny (model prog w) A (setAttr (.ref x) name v) Q E s := by
  obtain ⟨od,J,hl⟩ := I.look
  refine PySem.W.set_plain X J hs (PySem.W.osa_open (s := { s with toks := s.toks + 1 }) (r := none) X J hp ht fun b => ?_)
  obtain ⟨cd,hc,hd'⟩ := PySem.W.any_some hh
  have hx : s.heap.get? x = some ⟨.ref C,some dx,.plain,#[]⟩ := I.obj
  refine wpAny_bind (wpAny_pure (wpAny_bind (wpAny_bind (wpAny_loadPart hx (wpAny_bind (PySem.W.Looks.here (s := { s with toks := s.toks + 1 }) (PySem.W.looks_clsIn X hc) ?_))))))
  rw [hd']
  refine wpAny_pure (a := some dx) (wpAny_bind (wpAny_pure (wpAny_bind ?_)))
  refine wpAny_nsSet1 (s := { s with toks := s.toks + 1 }) I.ns fun h' hn2 hs2 => ?_
  obtain ⟨oD,esD,epD,hoD,hdD,hcD⟩ := hn2.count (PySem.Within.cons name v hw)
  refine wpAny_bind (wpAny_lookBehind hoD (by rw [hdD]; exact pastItsLine_dict (Nat.le_trans hcD (by rw [List.length_cons]; omega))) ?_)
  exact wpAny_pure (h _ ⟨(hs2.2 _ (Ne.symm I.ne)).trans I.obj,hn2,I.ne⟩ hs2)
theorem make_map {R : Result → Shared → Prop} {vs : List Value} {kw : List (Str × Value)} (X : K.In s.heap) (hm : PySem.W.makesIn K C = true)
    (hi : PySem.W.findIn K (.ref C) "__init__" = some (some (.ref f))) (hf : PySem.W.typeIn K (.ref f) = some (.type "function"))
    (h : codeAny (model prog w) (A.under (.builtin "type.__call__" ⟨.ref C :: vs,kw⟩)) (.call (.ref f) ⟨.ref (s.heap.objs.size + 1) :: vs,kw⟩) (PySem.W.InitBack (s.heap.objs.size + 1) R)
      { s with heap := (s.heap.push PySem.W.emptyDict).push (PySem.W.instObj C s.heap.objs.size) }) :
    codeAny (model prog w) A (.call (.ref C) ⟨vs,kw⟩) R s := by
  obtain ⟨hh,g,d,t,os⟩ := s
  exact PySem.W.make_core (PySem.W.makes_of X hm) (PySem.W.looks_findIn X hi) (fun self => PySem.W.bind_fn X self hf) (.inl rfl) h
end
def putF (f : Str) (v : V) : List (Str × V) → List (Str × V)
  | [] => [(f,v)]
  | (g,x) :: r => if g = f then (g,v) :: r else (g,x) :: putF f v r
theorem lookup_putF (f g : Str) (v : V) : ∀ fs : List (Str × V),(putF f v fs).lookup g = if g = f then some v else fs.lookup g
  | [] => by
    show List.lookup g [(f,v)] = _
    by_cases h : g = f
    · have hb : (g == f) = true := beq_iff_eq.mpr h
      simp only [List.lookup,hb,if_pos h]
    · have hb : (g == f) = false := beq_eq_false_iff_ne.mpr h
      simp only [List.lookup,hb,if_neg h]
  | (k,x) :: r => by
    have ih := lookup_putF f g v r
    rw [show putF f v ((k,x) :: r) = (if k = f then (k,v) :: r else (k,x) :: putF f v r) from rfl]
    by_cases hk : k = f
    · rw [if_pos hk]
      by_cases h : g = k
      · have hb : (g == k) = true := beq_iff_eq.mpr h
        simp only [List.lookup,hb,if_pos (h.trans hk)]
      · have hb : (g == k) = false := beq_eq_false_iff_ne.mpr h
        simp only [List.lookup,hb,if_neg (fun e : g = f => h (e.trans hk.symm))]
    · rw [if_neg hk]
      by_cases h : g = k
      · have hb : (g == k) = true := beq_iff_eq.mpr h
        simp only [List.lookup,hb,if_neg (fun e : g = f => hk (h.symm.trans e))]
      · have hb : (g == k) = false := beq_eq_false_iff_ne.mpr h
        simp only [List.lookup,hb]
        exact ih
theorem keys_putF (f : Str) (v : V) : ∀ fs : List (Str × V),f ∈ (putF f v fs).map (·.1) ∧ ∀ g,g ∈ fs.map (·.1) → g ∈ (putF f v fs).map (·.1)
  | [] => ⟨by simp [putF],fun g h => by simp at h⟩
  | (k,x) :: r => by
    obtain ⟨i1,i2⟩ := keys_putF f v r
    rw [show putF f v ((k,x) :: r) = (if k = f then (k,v) :: r else (k,x) :: putF f v r) from rfl]
    by_cases hk : k = f
    · rw [if_pos hk]
      subst hk
      exact ⟨by simp,fun g h => by simpa using h⟩
    · rw [if_neg hk]
      refine ⟨?_,fun g h => ?_⟩
      · rw [List.map_cons]
        exact List.mem_cons_of_mem _ i1
      · rw [List.map_cons] at h ⊢
        rcases List.mem_cons.mp h with e | e
        · exact List.mem_cons.mpr (.inl e)
        · exact List.mem_cons_of_mem _ (i2 g e)
theorem length_putF (f : Str) (v : V) : ∀ fs : List (Str × V),(putF f v fs).length ≤ fs.length + 1
  | [] => by simp [putF]
  | (k,x) :: r => by
    have ih := length_putF f v r
    rw [show putF f v ((k,x) :: r) = (if k = f then (k,v) :: r else (k,x) :: putF f v r) from rfl]
    by_cases hk : k = f
    · rw [if_pos hk,List.length_cons,List.length_cons]; omega
    · rw [if_neg hk,List.length_cons,List.length_cons]; omega
theorem RelO.some_of {v : V} {o : Option Value} (r : RelO (some v) o) : ∃ u,o = some u ∧ RelV v u := by
  cases o with
  | none => exact (show False from r).elim
  | some u => exact ⟨u,rfl,r⟩
theorem RelO.none_of {o : Option Value} (r : RelO none o) : o = none := by
  cases o with
  | none => rfl
  | some u => exact (show False from r).elim
theorem handed_of {v : V} {u : Value} (r : RelV v u) : PySem.W.handedIn u = true := by
  cases v with
  | non => cases (show u = Value.none from r); rfl
  | bl b => cases (show u = Value.bool b from r); rfl
  | int i => obtain ⟨t,e⟩ := (show ∃ t,u = Value.int i t from r); cases e; rfl
  | str x => obtain ⟨t,e⟩ := (show ∃ t,u = Value.str x t from r); cases e; rfl
  | byt b => obtain ⟨t,e⟩ := (show ∃ t,u = Value.bytes b t from r); cases e; rfl
  | flt b => obtain ⟨t,e⟩ := (show ∃ t,u = Value.float b t from r); cases e; rfl
  | ref a => cases (show u = Value.ref a from r); rfl
  | ty n => cases (show u = Value.type n from r); rfl
section
variable {P : Program} {w : World} {H H' : Hp} {h h' : Heap} {a C dx : Addr} {fs fs' : List (Str × V)}
theorem ins_get (hok : HOk P w H h) (e : H a = some (.ins C dx fs)) : ∃ mA,ObjM h a dx C mA ∧ (∀ f,RelO (fs.lookup f) (mA f)) ∧ PySem.Within mA (fs.map (·.1)) ∧ fs.length ≤ 1000 ∧ H dx = some (.own a) := by
  obtain ⟨d,z,ne,ob,mA,n,r,q⟩ := (show ObjOk P w H h a (.ins C dx fs) from hok a _ e)
  exact ⟨mA,⟨ob,n,ne⟩,r,q,z,d⟩
end
structure Cls (K : PySem.W.Frag) (C : Addr) : Prop where
  pg : PySem.W.plainGet K C Str.empty = true
  hd : PySem.W.hasDictIn K C = true
  po : PySem.W.plainOver K C = true
  sa : PySem.W.findIn K (.ref C) "__setattr__" = some (some (.builtin "object.__setattr__"))
theorem Cls.get {K : PySem.W.Frag} {C : Addr} (c : Cls K C) (f : Str) : PySem.W.plainGet K C f = true := c.pg
def NoAttr (K : PySem.W.Frag) (C : Addr) (f : Str) : Prop := PySem.W.findIn K (.ref C) f = some none
theorem NoAttr.taker {K : PySem.W.Frag} {C : Addr} {f : Str} (n : NoAttr K C f) : PySem.W.takerIn K C f = some none := by
  unfold PySem.W.takerIn
  rw [show PySem.W.findIn K (.ref C) f = some none from n]
  rfl
structure Meth (K : PySem.W.Frag) (C : Addr) (m : Str) (f : Addr) : Prop where
  at_ : PySem.W.findIn K (.ref C) m = some (some (.ref f))
  fn : PySem.W.isFn K (.ref f) = true
  kp : PySem.W.keepIn K (.ref f) = true
section
variable {X : Cx} {pins : List (Addr × Obj)} {σ : St} {H : Hp} {s : Shared} {a C dx : Addr} {fs : List (Str × V)} {f : Str} {v : V} {A : Around} {E : Value → Shared → Prop}
theorem getattr_ok {b : Bool} {Q : Value → Shared → Prop} (I : Inv X pins σ H s) (e : H a = some (.ins C dx fs)) (c : Cls X.K C) (n : NoAttr X.K C f) (l : fs.lookup f = some v)
    (h : ∀ u s',Inv X pins σ H s' → RelV v u → Q u s') : wpAny (model X.prog X.w) A (getAttr (.ref a) f b) Q E s := by
  obtain ⟨mA,O,r,_,_,_⟩ := ins_get I.hok e
  obtain ⟨u,hu,ru⟩ := RelO.some_of (v := v) (o := mA f) (by rw [← l]; exact r f)
  exact get_map I.kIn O (c.get f) c.hd n hu (handed_of ru) (h u _ (I.tok _) ru)
theorem getmeth_ok {m : Str} {g : Addr} {pl : Sem Bool} {Q : Value × List Value → Shared → Prop} (I : Inv X pins σ H s) (e : H a = some (.ins C dx fs)) (c : Cls X.K C) (k : Meth X.K C m g) (l : fs.lookup m = none)
    (h : Q (.ref g,[.ref a]) s) : wpAny (model X.prog X.w) A (getMethod (.ref a) m pl) Q E s := by
  obtain ⟨mA,O,r,_,_,_⟩ := ins_get I.hok e
  have hn : mA m = none := RelO.none_of (by rw [← l]; exact r m)
  exact get_meth I.kIn O (c.get m) k.at_ k.fn hn h
theorem setattr_ok {y : V} {u : Value} {Q : Unit → Shared → Prop} (I : Inv X pins σ H s) (e : H a = some (.ins C dx fs)) (c : Cls X.K C) (n : NoAttr X.K C f) (hl : fs.length < 1000) (ry : RelV y u)
    (h : ∀ s',Inv X pins σ (upd H a (.ins C dx (putF f y fs))) s' → Q () s') : wpAny (model X.prog X.w) A (setAttr (.ref a) f u) Q E s := by
  obtain ⟨mA,O,r,wi,_,ho⟩ := ins_get I.hok e
  have hz : (fs.map (·.1)).length ≤ sizeLine := by rw [List.length_map,sizeLine_eq]; omega
  refine set_map I.kIn O c.sa c.po n.taker c.hd wi hz fun h' O' sb => h _ ?_
  have hd : ∃ o,h'.get? dx = some o := let ⟨o,_,_,e',_⟩ := O'.ns; ⟨o,e'⟩
  refine I.write (x := a) (e := dx) (by rw [e]; exact True.intro) (.inr ho) (fun b q hb z => (sb.2 b hb).trans z) hd ?_
  refine ⟨by rw [upd_ne O.ne]; exact ho,?_,O.ne,O'.obj,_,O'.ns,fun g => ?_,fun g hg => ?_⟩
  · have := length_putF f y fs; omega
  · show RelO ((putF f y fs).lookup g) (if g = f then some u else mA g)
    rw [lookup_putF]
    by_cases q : g = f
    · rw [if_pos q,if_pos q]; exact ry
    · rw [if_neg q,if_neg q]; exact r g
  · by_cases q : g = f
    · rw [q]; exact (keys_putF f y fs).1
    · refine (keys_putF f y fs).2 g (wi g fun z => hg ?_)
      show (if g = f then some u else mA g) = none
      rw [if_neg q]; exact z
theorem Inv.made (I : Inv X pins σ H s) : Inv X pins σ (upd (upd H s.heap.objs.size (.own (s.heap.objs.size + 1))) (s.heap.objs.size + 1) (.ins C s.heap.objs.size []))
    { s with heap := (s.heap.push PySem.W.emptyDict).push (PySem.W.instObj C s.heap.objs.size) } := by
  have e1 : (s.heap.push PySem.W.emptyDict).get? s.heap.objs.size = some PySem.W.emptyDict := Heap.get?_push_size s.heap rfl
  have e2 : ((s.heap.push PySem.W.emptyDict).push (PySem.W.instObj C s.heap.objs.size)).get? (s.heap.objs.size + 1) = some (PySem.W.instObj C s.heap.objs.size) := by
    have := Heap.get?_push_size (s.heap.push PySem.W.emptyDict) (o := PySem.W.instObj C s.heap.objs.size) rfl
    rwa [Heap.size_push] at this
  have e3 : (s.heap.push PySem.W.emptyDict).Ns s.heap.objs.size (fun _ => none) := ⟨PySem.W.emptyDict,#[],_,e1,rfl,(fun e he => absurd he (by simp)),fun _ => rfl⟩
  have I1 := I.laid (a := s.heap.objs.size) (o := .own (s.heap.objs.size + 1)) (h' := s.heap.push PySem.W.emptyDict) (t' := s.toks) (fun b u q => Heap.get?_push_of_some _ q) (Nat.le_refl _) ⟨_,e1⟩
  refine I1.laid (a := s.heap.objs.size + 1) (o := .ins C s.heap.objs.size []) (t' := s.toks) (fun b u q => Heap.get?_push_of_some _ q) (Nat.le_of_eq (Heap.size_push _ _)) ?_
  have ne : s.heap.objs.size ≠ s.heap.objs.size + 1 := Nat.ne_of_lt (Nat.lt_succ_self _)
  refine ⟨by rw [upd_ne ne,upd_same],Nat.zero_le _,ne,e2,fun _ => none,(Heap.Ns1.of_empty e3).at fun o q => Heap.get?_push_of_some _ q,fun _ => True.intro,fun y hy => absurd rfl hy⟩
theorem attr_of {prog : Program} {w : World} {env : Env} {e : Expr} {f : Str} {pos : Pos} {s : Shared} {Q : Value → Shared → Prop} (hb : attributeBase e f env (eval e env) = eval e env)
    (h : wpAny (model prog w) A (eval e env) (fun o s₁ => wpAny (model prog w) A (getAttr o f true) Q E s₁) E s) : wpAny (model prog w) A (eval (.Attribute e f pos) env) Q E s :=
  Attribute_any_ h (by rw [arm_eval_Attribute,hb])
end
def tFld (K : PySem.W.Frag) (ta : TE) (f : Str) : TE := fun σ H Q => ta σ H fun x H1 => ∃ a C dx fs v,x = .ref a ∧ H1 a = some (.ins C dx fs) ∧ Cls K C ∧ NoAttr K C f ∧ fs.lookup f = some v ∧ Q v H1
def sFld (K : PySem.W.Frag) (ta tv : TE) (f : Str) : TS := fun D σ H => tv σ H fun y H1 => ta σ H1 fun x H2 => ∃ a C dx fs,x = .ref a ∧ H2 a = some (.ins C dx fs) ∧ Cls K C ∧ NoAttr K C f ∧ fs.length < 1000 ∧
  D.nx σ (upd H2 a (.ins C dx (putF f y fs)))
section
variable {X : Cx} {o e value : Expr} {f : Str} {pos pos' tpos : Pos} {ta tv : TE}
theorem pe_fld (he : PE X e ta) (hb : attributeBase e f X.env (eval e X.env) = eval e X.env) : PE X (.Attribute e f pos) (tFld X.K ta f) := by
  intro pins s σ H Q I h
  refine attr_of hb (thn (he pins s σ H _ I h) fun u s1 ⟨x,H1,I1,rx,a,C,dx,fs,v,ex,ea,c,n,l,q⟩ => ?_)
  subst ex
  obtain rfl : u = Value.ref a := rx
  exact getattr_ok I1 ea c n l fun u' s2 I2 ru => ⟨v,H1,I2,ru,q⟩
theorem ps_fld (ha : PE X o ta) (hv : PE X value tv) (hs : swapsWith value (some (.Attribute o f pos')) pos.line X.env = pure false) : PS X (.Assign [.Attribute o f pos'] value pos) (sFld X.K ta tv f) := by
  intro pins s σ H D I h
  refine plainObj_wpAny_Assign_Attribute (thn (hv pins s σ H _ I h) fun u s1 ⟨y,H1,I1,ry,q⟩ => thn (ha pins s1 σ H1 _ I1 q) fun ov s2 ⟨x,H2,I2,rx,a,C,dx,fs,ex,ea,c,n,l,q2⟩ => ?_) hs
  subst ex
  obtain rfl : ov = Value.ref a := rx
  exact setattr_ok I2 ea c n l ry fun s3 I3 => ⟨σ,_,I3,q2⟩
end
section
variable {X : Cx} {pins : List (Addr × Obj)} {σ : St} {H : Hp} {s : Shared} {A : Around} {E : Value → Shared → Prop} {Q : Value → Shared → Prop} {c : Value} {b : Bool}
inductive TyOf (K : PySem.W.Frag) (H : Hp) : V → Value → Prop where
  | non : TyOf K H .non (.type "NoneType")
  | bl (x : Bool) : TyOf K H (.bl x) (.type "bool")
  | int (i : Int) : TyOf K H (.int i) (.type "int")
  | str (x : Str) : TyOf K H (.str x) (.type "str")
  | flt (x : UInt64) : TyOf K H (.flt x) (.type "float")
  | lst {a : Addr} {xs : List V} (e : H a = some (.lst xs)) : TyOf K H (.ref a) (.type "list")
  | frz {a : Addr} {o : Obj} {xs : List V} (e : H a = some (.frz o (.lst xs))) : TyOf K H (.ref a) (.type "list")
  | tup {a : Addr} {xs : List V} (e : H a = some (.tup xs)) : TyOf K H (.ref a) (.type "tuple")
  | dK {a : Addr} {kvs : List (Key × V)} (e : H a = some (.dK kvs)) : TyOf K H (.ref a) (.type "dict")
  | dT {a : Addr} {kvs : List (List Key × V)} (e : H a = some (.dT kvs)) : TyOf K H (.ref a) (.type "dict")
  | ins {a C dx : Addr} {fs : List (Str × V)} (e : H a = some (.ins C dx fs)) (cl : Cls K C) (ha : PySem.W.findIn K (.ref C) "__class__" = some (some (.builtin "object.__class__")))
      (hn : PySem.W.specialIn K (.builtin "object.__class__") "__get__" = some (some (.builtin "getset_descriptor.__get__"))) (htk : PySem.W.takesIn K (.builtin "object.__class__") = some true)
      (hm : PySem.W.mroIn K C (.type "object") = some true) : TyOf K H (.ref a) (.ref C)
theorem isinst_ok {x : V} {u t : Value} (I : Inv X pins σ H s) (rx : RelV x u) (ty : TyOf X.K H x t) (e : PySem.W.kitOne X.K t c = some b) (h : ∀ tk,Q (.bool b) { s with toks := tk }) :
    wpAny (model X.prog X.w) A (call (.builtin "isinstance") [u,c]) Q E s := by
  cases ty with
  | non => cases (show u = Value.none from rx); exact PySem.W.kia_one PySem.W.kitx_none I.kIn True.intro e (fun z => nomatch z) h
  | bl y => cases (show u = Value.bool y from rx); exact PySem.W.kia_one PySem.W.kitx_bool I.kIn True.intro e (fun z => nomatch z) h
  | int i => obtain ⟨t,q⟩ := (show ∃ t,u = Value.int i t from rx); cases q; exact PySem.W.kia_one PySem.W.kitx_int I.kIn True.intro e (fun z => nomatch z) h
  | str y => obtain ⟨t,q⟩ := (show ∃ t,u = Value.str y t from rx); cases q; exact PySem.W.kia_one PySem.W.kitx_str I.kIn True.intro e (fun z => nomatch z) h
  | flt y => obtain ⟨t,q⟩ := (show ∃ t,u = Value.float y t from rx); cases q; exact PySem.W.kia_one PySem.W.kitx_float I.kIn True.intro e (fun z => nomatch z) h
  | @lst a xs ea =>
    cases (show u = Value.ref a from rx)
    obtain ⟨_,_,n,_,h1⟩ := (show ObjOk X.prog X.w H s.heap a (.lst xs) from I.hok a _ ea)
    exact PySem.W.kia_one PySem.W.kitx_list I.kIn ⟨_,h1,rfl⟩ e (fun z => nomatch z) h
  | @frz a ob xs ea =>
    cases (show u = Value.ref a from rx)
    obtain ⟨_,_,_,n,_,h1⟩ := (show ObjOk X.prog X.w H s.heap a (.frz ob (.lst xs)) from I.hok a _ ea)
    exact PySem.W.kia_one PySem.W.kitx_list I.kIn ⟨_,h1,rfl⟩ e (fun z => nomatch z) h
  | @tup a xs ea =>
    cases (show u = Value.ref a from rx)
    obtain ⟨_,_,_,p⟩ := (show ObjOk X.prog X.w H s.heap a (.tup xs) from I.hok a _ ea)
    obtain ⟨o,h1,h2,_⟩ := p
    exact PySem.W.kia_one PySem.W.kitx_tuple I.kIn ⟨o,h1,h2⟩ e (fun z => nomatch z) h
  | @dK a kvs ea =>
    cases (show u = Value.ref a from rx)
    obtain ⟨_,_,vs,_,p⟩ := (show ObjOk X.prog X.w H s.heap a (.dK kvs) from I.hok a _ ea)
    obtain ⟨o,es,ep,h1,h2,_⟩ := p
    exact PySem.W.kia_one PySem.W.kitx_dict I.kIn ⟨o,h1,h2.1⟩ e (fun z => nomatch z) h
  | @dT a kvs ea =>
    cases (show u = Value.ref a from rx)
    obtain ⟨_,_,xs,_,o,es,ep,h1,h2,_⟩ := (show ObjOk X.prog X.w H s.heap a (.dT kvs) from I.hok a _ ea)
    exact PySem.W.kia_one PySem.W.kitx_dict I.kIn ⟨o,h1,h2.1⟩ e (fun z => nomatch z) h
  | @ins a C dx fs ea cl ha hn htk hm =>
    cases (show u = Value.ref a from rx)
    obtain ⟨mA,O,_⟩ := ins_get I.hok ea
    obtain ⟨od,J,_⟩ := O.look
    exact PySem.W.kia_one (PySem.W.kitx_own (cl.get _) cl.hd ha hn htk hm) I.kIn J e (fun z => nomatch z) h
end
end L2
namespace L2
open PySem PySem.Spec PyProof.Rows
structure Room (k : Nat) (A : Around) : Prop where
  hd : A.handled = none
  dp : A.depth + 3 * k + 5 < recursionLimit
  un : A.units + 16 * k + 200 < cLine
  gd : A.guards = some []
theorem Room.mono {j k : Nat} {A : Around} (r : Room k A) (h : j ≤ k) : Room j A := ⟨r.hd,by have := r.dp; omega,by have := r.un; omega,r.gd⟩
theorem Room.deeper {k : Nat} {A : Around} (r : Room (k + 1) A) (env : Env) : Room k (A.deeper env) :=
  ⟨r.hd,by have := r.dp; show A.depth + 1 + 3 * k + 5 < _; omega,by have := r.un; show A.units + 3 + 16 * k + 200 < _; omega,r.gd⟩
theorem make_depth {A : Around} {C : Addr} {us : List Value} {kw : List (Str × Value)} : (A.under (.builtin "type.__call__" ⟨.ref C :: us,kw⟩)).depth = A.depth + 1 := by
  first | rfl | simp [Around.under,Code.weight,Code.isCreation,Code.isGuard,Code.isCaller,Code.frames,Code.isFrame,guardIds]
theorem make_units {A : Around} {C : Addr} {us : List Value} {kw : List (Str × Value)} : (A.under (.builtin "type.__call__" ⟨.ref C :: us,kw⟩)).units = A.units + 1 := by
  first | rfl | simp [Around.under,Code.cUnits,Code.frames,Code.isFrame]
theorem make_guards {A : Around} {C : Addr} {us : List Value} {kw : List (Str × Value)} (h : A.guards = some []) : (A.under (.builtin "type.__call__" ⟨.ref C :: us,kw⟩)).guards = some [] := by
  first | exact h | (unfold Around.under; simp [h,Code.guards,Code.isGuard,guardIds,pushGuards])
theorem Room.make {k : Nat} {A : Around} (r : Room (k + 1) A) (C : Addr) (us : List Value) (kw : List (Str × Value)) : Room k (A.under (.builtin "type.__call__" ⟨.ref C :: us,kw⟩)) :=
  ⟨r.hd,by have := r.dp; rw [make_depth]; omega,by have := r.un; rw [make_units]; omega,make_guards r.gd⟩
theorem Room.depth {k : Nat} {A : Around} (r : Room k A) : A.depth < recursionLimit := by have := r.dp; omega
def tNil : TA := fun _ H Q => Q [] H
def tCons (ta : TE) (tr : TA) : TA := fun σ H Q => ta σ H fun x H1 => tr σ H1 fun xs H2 => Q (x :: xs) H2
section
variable {X : Cx} {e : Expr} {es : List Expr} {te : TE} {t : TA} {pos : Pos}
theorem pa_nil : PA X [] tNil := fun _ _ _ _ H Q I h => Calls.spliced_nil ⟨[],H,I,.nil,h⟩
theorem pa_cons (ha : PE X e te) (hr : PA X es t) (hs : starEach (e :: es) X.env = (false,eval e X.env) :: starEach es X.env := by rfl) : PA X (e :: es) (tCons te t) := by
  intro pos pins s σ H Q I h
  rw [hs]
  show wpAny _ _ (spliced ((false,eval e X.env) :: backTo pos (starEach es X.env))) _ _ s
  refine Calls.spliced_cons (thn (ha pins s σ H _ I h) fun u s1 ⟨x,H1,I1,r1,q1⟩ => ?_)
  exact thn (hr pos pins s1 σ H1 _ I1 q1) fun us s2 ⟨xs,H2,I2,r2,q2⟩ => ⟨x :: xs,H2,I2,.cons r1 r2,q2⟩
def tTup (t : TA) : TE := fun σ H Q => t σ H fun xs H1 => xs.length ≤ sizeLine ∧ ∀ p,H1 p = none → Q (.ref p) (upd H1 p (.tup xs))
def tLst (t : TA) : TE := fun σ H Q => t σ H fun xs H1 => xs.length ≤ sizeLine ∧ ∀ p,H1 p = none → Q (.ref p) (upd H1 p (.lst xs))
theorem pe_tup {x1} (h : PA X es t) : PE X (.Tuple es x1 pos) (tTup t) := by
  intro pins s σ H Q I hq
  refine wpAny_Tuple_spliced (thn (h pos pins s σ H _ I hq) fun us s1 ⟨xs,H1,I1,r,z,q⟩ => ⟨by rw [← r.length]; exact z,?_⟩)
  have hf : H1 s1.heap.objs.size = none := I1.hok.fresh (Nat.le_refl _)
  refine ⟨.ref s1.heap.objs.size,upd H1 s1.heap.objs.size (.tup xs),I1.laid (t' := s1.toks) (fun b u e => Heap.get?_push_of_some _ e) (Nat.le_refl _) ?_,rfl,q _ hf⟩
  exact ⟨z,us,r,⟨_,Heap.get?_push_size _ rfl,rfl,_,rfl⟩⟩
theorem pe_lst (h : PA X es t) : PE X (.List es pos) (tLst t) := by
  intro pins s σ H Q I hq
  refine wpAny_List_spliced (thn (h pos pins s σ H _ I hq) fun us s1 ⟨xs,H1,I1,r,z,q⟩ => ⟨by rw [← r.length]; exact z,?_⟩)
  have hf : H1 s1.heap.objs.size = none := I1.hok.fresh (Nat.le_refl _)
  refine ⟨.ref s1.heap.objs.size,upd H1 s1.heap.objs.size (.lst xs),I1.laid (t' := s1.toks) (fun b u e => Heap.get?_push_of_some _ e) (Nat.le_refl _) ?_,rfl,q _ hf⟩
  exact ⟨z,us,0,r,Heap.get?_push_size _ rfl⟩
end
abbrev Sp := List V → Hp → VK → XK → Prop
abbrev CXT := List Env → Hp → Shared → XK → Value → Shared → Prop
structure Env0 (P : Program) (w : World) (K : PySem.W.Frag) (mg : Str → Option Value) (base : Heap) (A : Around) (outer : List Env) (s : Shared) (H : Hp) : Prop where
  frames : A.frames = some outer
  mod : Mod K mg base
  bs : ∀ b o,base.get? b = some o → s.heap.get? b = some o ∧ H b = none
  bsz : base.objs.size ≤ s.heap.objs.size
  funs : s.heap.FunFrames base outer
  frf : ∀ b ∈ frs outer,H b = none
  hok : HOk P w H s.heap
  bare : AllBare s.gens
def CE (outer : List Env) (P : Program) (w : World) (H : Hp) (s : Shared) (Q : VK) (u : Value) (s' : Shared) : Prop :=
  ∃ v H',s'.os = s.os ∧ AllBare s'.gens ∧ Un (frs outer) [] H H' s.heap s'.heap ∧ HOk P w H' s'.heap ∧ RelV v u ∧ Q v H'
def CR (CX : CXT) (outer : List Env) (P : Program) (w : World) (H : Hp) (s : Shared) (Q : VK) (E : XK) (r : Result) (s' : Shared) : Prop :=
  match r with
  | .ok (.ret u) => CE outer P w H s Q u s'
  | .ok _ => False
  | .error e => CX outer H s E e s'
structure FnOk (P : Program) (w : World) (K : PySem.W.Frag) (mg : Str → Option Value) (base : Heap) (CX : CXT) (k : Nat) (f : Addr) (fd : FuncData) (ps : List Str) (sp : Sp) : Prop where
  len : ∀ vs H Q E,sp vs H Q E → vs.length = ps.length
  run : ∀ (A : Around) (outer : List Env) (s : Shared) (H : Hp) (args : Args) (us : List Value) (vs : List V) (Q : VK) (E : XK),Room k A → Env0 P w K mg base A outer s H → BindsTo s fd args (ps.zip us) → Vals vs us → sp vs H Q E →
    codeAny (model P w) A (.call (.ref f) args) (CR CX outer P w H s Q E) s
theorem Env0.make {P : Program} {w : World} {K : PySem.W.Frag} {mg : Str → Option Value} {base : Heap} {A : Around} {outer : List Env} {s : Shared} {H : Hp} (e : Env0 P w K mg base A outer s H) (C : Addr) (us : List Value) (kw : List (Str × Value)) :
    Env0 P w K mg base (A.under (.builtin "type.__call__" ⟨.ref C :: us,kw⟩)) outer s H := ⟨by first | exact e.frames | (simpa [Around.under,Code.envs,Code.isFrame,pushEnvs] using e.frames),e.mod,e.bs,e.bsz,e.funs,e.frf,e.hok,e.bare⟩
section
variable {X : Cx} {pins : List (Addr × Obj)} {σ : St} {H : Hp} {s s' : Shared}
theorem Inv.env0 (I : Inv X pins σ H s) : Env0 X.prog X.w X.K X.mg X.base X.A X.stack s H :=
  ⟨I.ok.frames,I.ok.mod,I.bs,Nat.le_trans I.ok.bsz I.sz,I.stack,I.stkFree,I.hok,I.bare⟩
theorem Inv.after {Q : VK} {u : Value} (I : Inv X pins σ H s) (h : CE X.stack X.prog X.w H s Q u s') : EP X pins σ Q u s' := by
  obtain ⟨v,H',os,bare,un,hok,r,q⟩ := h
  obtain ⟨hh,g,d,t,os'⟩ := s'
  obtain rfl : os' = s.os := os
  exact ⟨v,H',I.call (h' := hh) (g' := g) (d' := d) (t' := t) (ch := []) un hok bare (fun b z => absurd z (by simp)),r,q⟩
end
def tCall (sp : Sp) (dvs : List V) (E : XK) (t : TA) : TE := fun σ H Q => t σ H fun vs H1 => sp (vs ++ dvs) H1 Q E
def tMeth (C : Addr) (m : Str) (sp : Sp) (dvs : List V) (E : XK) (ta : TE) (t : TA) : TE := fun σ H Q => ta σ H fun x H1 => ∃ a dx fs,x = .ref a ∧ H1 a = some (.ins C dx fs) ∧ fs.lookup m = none ∧
  t σ H1 fun vs H2 => sp (x :: (vs ++ dvs)) H2 Q E
def tMake (C : Addr) (sp : Sp) (dvs : List V) (E : XK) (t : TA) : TE := fun σ H Q => t σ H fun vs H1 => ∀ x dx,H1 x = none → H1 dx = none → dx ≠ x →
  sp (.ref x :: (vs ++ dvs)) (upd (upd H1 dx (.own x)) x (.ins C dx [])) (fun v H2 => v = .non ∧ Q (.ref x) H2) E
def Binds (K : PySem.W.Frag) (fd : FuncData) (ps : List Str) (ds : List Value) : Prop :=
  ∀ (s : Shared) (us : List Value),K.In s.heap → (us ++ ds).length = ps.length → BindsTo s fd ⟨us,[]⟩ (ps.zip (us ++ ds))
theorem Binds.all {K : PySem.W.Frag} {fd : FuncData} {ps : List Str} (h : ∀ us : List Value,us.length = ps.length → bindArgs fd ⟨us,[]⟩ = pure (ps.zip us)) : Binds K fd ps [] := fun s us _ hl => by
  rw [List.append_nil] at hl ⊢
  exact .of_eq (h us hl)
def Passes (CX : CXT) (X : Cx) (E : XK) : Prop := ∀ (pins : List (Addr × Obj)) (σ : St) (H : Hp) (s : Shared) (e : Value) (s' : Shared),Inv X pins σ H s → CX X.stack H s E e s' → X.xe e s'
section
variable {X : Cx} {CX : CXT} {k : Nat} {f C : Addr} {fd : FuncData} {ps : List Str} {sp : Sp} {dvs : List V} {ds : List Value} {E : XK} {x m : Str} {p pos apos : Pos} {e o : Expr} {es : List Expr} {ta : TE} {t : TA}
theorem run_fn {pins : List (Addr × Obj)} {σ : St} {H : Hp} {s : Shared} {Q : VK} {us : List Value} {vs : List V} (F : FnOk X.prog X.w X.K X.mg X.base CX k f fd ps sp) (hr : Room k X.A) (hb : Binds X.K fd ps ds) (hd : Vals dvs ds) (hx : Passes CX X E)
    (I : Inv X pins σ H s) (r : Vals vs us) (h : sp (vs ++ dvs) H Q E) : wpAny (model X.prog X.w) X.A (call (.ref f) us) (EP X pins σ Q) X.xe s := by
  have r2 : Vals (vs ++ dvs) (us ++ ds) := r.append hd
  have hl : (us ++ ds).length = ps.length := by rw [← r2.length]; exact F.len _ _ _ _ h
  refine wpAny_call (codeAny_mono (F.run X.A X.stack s H ⟨us,[]⟩ (us ++ ds) (vs ++ dvs) Q E hr I.env0 (hb s us I.kIn hl) r2 h) fun r s' hq => ?_)
  cases r with
  | error e => exact hx pins σ H s e s' I hq
  | ok fl =>
    cases fl with
    | ret u => exact I.after hq
    | next => exact False.elim hq
    | brk => exact False.elim hq
    | cont => exact False.elim hq
theorem pe_call (F : FnOk X.prog X.w X.K X.mg X.base CX k f fd ps sp) (hr : Room k X.A) (hg : Gl X x) (hm : X.mg x = some (.ref f)) (hk : PySem.W.keepIn X.K (.ref f) = true) (hb : Binds X.K fd ps ds) (hd : Vals dvs ds) (hx : Passes CX X E)
    (ha : PA X (e :: es) t) (hdb : (x == ("__debug__" : Str)) = false := by decide) (he : starEach (e :: es) X.env = (false,eval e X.env) :: starEach es X.env := by rfl) (hpl : (backTo pos (starEach es X.env)).any (·.1) = false := by rfl) :
    PE X (.Call (.Name x p) (e :: es) [] pos) (tCall sp dvs E t) := by
  intro pins s σ H Q I h
  refine wpAny_Call_Name_kw (ld_glob I hg hm ?_ hdb)
  refine PySem.W.callWith_K (h₀ := X.base) I.ok.mod.kin hk (thn (ha pos pins s σ H _ I h) fun us s1 ⟨vs,H1,I1,r,q⟩ => ⟨I1.kIn,?_⟩) he hpl
  exact run_fn F hr hb hd hx I1 r q
theorem pe_meth {pl : Sem Bool} (he : PE X o ta) (c : Cls X.K C) (hm : Meth X.K C m f) (F : FnOk X.prog X.w X.K X.mg X.base CX k f fd ps sp) (hr : Room k X.A) (hb : Binds X.K fd ps ds) (hd : Vals dvs ds) (hx : Passes CX X E) (ha : PA X (e :: es) t)
    (hst : starEach (e :: es) X.env = (false,eval e X.env) :: starEach es X.env := by rfl) (hpl : (backTo pos (starEach es X.env)).any (·.1) = false := by rfl)
    (ht : eval (.Call (.Attribute o m apos) (e :: es) [] pos) X.env = (do
      let ov ← eval o X.env
      standAt apos.atName
      let (f,first) ← holding [ov] (getMethod ov m pl)
      callWith pos f first (backTo pos (starEach (e :: es) X.env)) (backToKw pos (keywordEach [] X.env))) := by rfl) :
    PE X (.Call (.Attribute o m apos) (e :: es) [] pos) (tMeth C m sp dvs E ta t) := by
  intro pins s σ H Q I h
  refine PySem.W.methodCall_KW (pl := pl) (thn (he pins s σ H _ I h) fun u s1 ⟨x,H1,I1,rx,a,dx,fs,ex,ea,l,q⟩ => ?_) ht
  subst ex
  obtain rfl : u = Value.ref a := rx
  refine getmeth_ok I1 ea c hm l ?_
  refine PySem.W.callWith_K (first := [.ref a]) (h₀ := X.base) I.ok.mod.kin hm.kp (thn (ha pos pins s1 σ H1 _ I1 q) fun us s2 ⟨vs,H2,I2,r,q2⟩ => ⟨I2.kIn,?_⟩) hst hpl
  exact run_fn (us := .ref a :: us) (vs := .ref a :: vs) F hr hb hd hx I2 (.cons rfl r) q2
theorem pe_meth0 {pl : Sem Bool} (he : PE X o ta) (c : Cls X.K C) (hm : Meth X.K C m f) (F : FnOk X.prog X.w X.K X.mg X.base CX k f fd ps sp) (hr : Room k X.A) (hb : Binds X.K fd ps ds) (hd : Vals dvs ds) (hx : Passes CX X E)
    (ht : eval (.Call (.Attribute o m apos) [] [] pos) X.env = (do
      let ov ← eval o X.env
      standAt apos.atName
      let (f,first) ← holding [ov] (getMethod ov m pl)
      callWith pos f first (backTo pos (starEach [] X.env)) (backToKw pos (keywordEach [] X.env))) := by rfl) :
    PE X (.Call (.Attribute o m apos) [] [] pos) (tMeth C m sp dvs E ta tNil) := by
  intro pins s σ H Q I h
  refine PySem.W.methodCall_KW (pl := pl) (thn (he pins s σ H _ I h) fun u s1 ⟨x,H1,I1,rx,a,dx,fs,ex,ea,l,q⟩ => ?_) ht
  subst ex
  obtain rfl : u = Value.ref a := rx
  refine getmeth_ok I1 ea c hm l ?_
  exact PySem.W.callWith_K0 (first := [.ref a]) I1.kIn hm.kp (run_fn (us := [.ref a]) (vs := [.ref a]) F hr hb hd hx I1 (.cons rfl .nil) q)
structure Mk (K : PySem.W.Frag) (C f : Addr) : Prop where
  makes : PySem.W.makesIn K C = true
  init : PySem.W.findIn K (.ref C) "__init__" = some (some (.ref f))
  fn : PySem.W.isFn K (.ref f) = true
  kp : PySem.W.keepIn K (.ref C) = true
theorem run_make {pins : List (Addr × Obj)} {σ : St} {H : Hp} {s : Shared} {Q : VK} {us : List Value} {vs : List V} (M : Mk X.K C f) (F : FnOk X.prog X.w X.K X.mg X.base CX k f fd ps sp) (hr : Room (k + 1) X.A) (hb : Binds X.K fd ps ds) (hd : Vals dvs ds)
    (hx : Passes CX X E) (I : Inv X pins σ H s) (r : Vals vs us)
    (h : ∀ x dx,H x = none → H dx = none → dx ≠ x → sp (.ref x :: (vs ++ dvs)) (upd (upd H dx (.own x)) x (.ins C dx [])) (fun v H2 => v = .non ∧ Q (.ref x) H2) E) :
    wpAny (model X.prog X.w) X.A (call (.ref C) us) (EP X pins σ Q) X.xe s := by
  have hq := h (s.heap.objs.size + 1) s.heap.objs.size (I.hok.fresh (Nat.le_succ _)) (I.hok.fresh (Nat.le_refl _)) (Nat.ne_of_lt (Nat.lt_succ_self _))
  have I2 := Inv.made (C := C) I
  have r2 : Vals (V.ref (s.heap.objs.size + 1) :: (vs ++ dvs)) (Value.ref (s.heap.objs.size + 1) :: (us ++ ds)) := .cons rfl (r.append hd)
  have hl : (Value.ref (s.heap.objs.size + 1) :: us ++ ds).length = ps.length := by
    have e := r2.length
    rw [F.len _ _ _ _ hq] at e
    exact e.symm
  refine wpAny_call (make_map (f := f) I.kIn M.makes M.init (beq_iff_eq.mp M.fn) (codeAny_mono (F.run _ X.stack _ _ ⟨Value.ref (s.heap.objs.size + 1) :: us,[]⟩ (Value.ref (s.heap.objs.size + 1) :: (us ++ ds)) _ _ E (hr.make C us [])
    (I2.env0.make C us []) (hb _ (Value.ref (s.heap.objs.size + 1) :: us) I2.kIn hl) r2 hq) fun r s' hq' => ?_))
  cases r with
  | error e => exact hx pins σ _ _ e s' I2 hq'
  | ok fl =>
    cases fl with
    | ret u =>
      obtain ⟨v,H',I3,rv,ev,q3⟩ := I2.after hq'
      subst ev
      exact ⟨rv,⟨V.ref (s.heap.objs.size + 1),H',I3,rfl,q3⟩⟩
    | next => exact False.elim hq'
    | brk => exact False.elim hq'
    | cont => exact False.elim hq'
theorem pe_make0 (M : Mk X.K C f) (F : FnOk X.prog X.w X.K X.mg X.base CX k f fd ps sp) (hr : Room (k + 1) X.A) (hg : Gl X x) (hm : X.mg x = some (.ref C)) (hb : Binds X.K fd ps ds) (hd : Vals dvs ds) (hx : Passes CX X E)
    (hdb : (x == ("__debug__" : Str)) = false := by decide) : PE X (.Call (.Name x p) [] [] pos) (tMake C sp dvs E tNil) := by
  intro pins s σ H Q I h
  refine wpAny_Call_Name_kw (ld_glob I hg hm ?_ hdb)
  exact PySem.W.callWith_K0 I.kIn M.kp (run_make (us := []) M F hr hb hd hx I .nil h)
end
section
variable {X : Cx} {CX : CXT} {k : Nat} {f C : Addr} {fd : FuncData} {ps ks : List Str} {sp : Sp} {E : XK} {x m : Str} {p pos apos kpos : Pos} {e o : Expr} {es : List Expr} {kws : List Keyword} {te ta : TE} {t tk : TA} {nm : Option Str}
variable {g : List Value → List Value → List Value} {gV : List V → List V → List V}
end
structure FnScope (N P : List Str) (sc : Scope) : Prop where
  kind : sc.kind = .function
  co : sc.isCoroutine = false
  gen : sc.isGenerator = false
  nd : N.Nodup
  pre : N.take P.length = P
  par : ∀ x ∈ P,sc.names.lookup x = some .local ∨ sc.names.lookup x = some .cell
  nofree : ∀ y ∈ sc.names,y.2 ≠ .free
theorem bindL_out {kindOf : Str → Option NameKind} {x : Str} : ∀ {binds : List (Str × Value)} {m : Str → Option Value},(∀ v,(x,v) ∉ binds) → bindL kindOf binds m x = m x
  | [],_,_ => rfl
  | (n,v) :: r,m,h => by
    unfold bindL
    rw [bindL_out fun w hw => h w (List.mem_cons_of_mem _ hw)]
    split
    · have : x ≠ n := by rintro rfl; exact h v List.mem_cons_self
      simp [this]
    · rfl
theorem bindC_out {kindOf : Str → Option NameKind} {x : Str} : ∀ {binds : List (Str × Value)} {m : Str → Option Value},(∀ v,(x,v) ∉ binds) → bindC kindOf binds m x = m x
  | [],_,_ => rfl
  | (n,v) :: r,m,h => by
    unfold bindC
    rw [bindC_out fun w hw => h w (List.mem_cons_of_mem _ hw)]
    split
    · rfl
    · have : x ≠ n := by rintro rfl; exact h v List.mem_cons_self
      simp [this]
theorem bindL_get {kindOf : Str → Option NameKind} {x : Str} {v : Value} : ∀ {P : List Str} {vs : List Value} {i : Nat} {m : Str → Option Value},P.Nodup → P[i]? = some x → vs[i]? = some v → kindOf x = some .local →
    bindL kindOf (P.zip vs) m x = some v
  | [],_,_,_,_,h,_,_ => by simp at h
  | _ :: _,[],_,_,_,_,h,_ => by simp at h
  | p :: P,w :: vs,0,m,nd,h1,h2,hk => by
    simp at h1 h2; subst h1; subst h2
    show bindL kindOf ((p,w) :: P.zip vs) m p = _
    unfold bindL
    rw [bindL_out fun v hv => (List.nodup_cons.mp nd).1 (List.of_mem_zip hv).1,if_pos hk]
    simp
  | p :: P,w :: vs,i + 1,m,nd,h1,h2,hk => by
    show bindL kindOf ((p,w) :: P.zip vs) m x = _
    unfold bindL
    exact bindL_get (i := i) (List.nodup_cons.mp nd).2 (by simpa using h1) (by simpa using h2) hk
theorem bindC_get {kindOf : Str → Option NameKind} {x : Str} {v : Value} : ∀ {P : List Str} {vs : List Value} {i : Nat} {m : Str → Option Value},P.Nodup → P[i]? = some x → vs[i]? = some v → kindOf x ≠ some .local →
    bindC kindOf (P.zip vs) m x = some v
  | [],_,_,_,_,h,_,_ => by simp at h
  | _ :: _,[],_,_,_,_,h,_ => by simp at h
  | p :: P,w :: vs,0,m,nd,h1,h2,hk => by
    simp at h1 h2; subst h1; subst h2
    show bindC kindOf ((p,w) :: P.zip vs) m p = _
    unfold bindC
    rw [bindC_out fun v hv => (List.nodup_cons.mp nd).1 (List.of_mem_zip hv).1,if_neg hk]
    simp
  | p :: P,w :: vs,i + 1,m,nd,h1,h2,hk => by
    show bindC kindOf ((p,w) :: P.zip vs) m x = _
    unfold bindC
    exact bindC_get (i := i) (List.nodup_cons.mp nd).2 (by simpa using h1) (by simpa using h2) hk
def start (N : List Str) (vs : List V) : St := vs.map some ++ List.replicate (N.length - vs.length) none
def cxOf (CX : CXT) (P : Program) (w : World) (K : PySem.W.Frag) (mg : Str → Option Value) (base : Heap) (N : List Str) (qual : Str) (scope : Scope) (f : Addr) (cd : Value) (A : Around) (outer : List Env) (s : Shared) (H : Hp) (E : XK) : Cx where
  prog := P
  w := w
  K := K
  mg := mg
  base := base
  A := A.deeper (envOfC qual scope s.heap.objs.size f cd)
  N := N
  s₀ := s
  H₀ := H
  env := envOfC qual scope s.heap.objs.size f cd
  outer := outer
  stack := envOfC qual scope s.heap.objs.size f cd :: outer
  ex := []
  calm := true
  fn := fun _ => true
  pn := []
  xe := fun e s' => wpAny (model P w) (A.deeper (envOfC qual scope s.heap.objs.size f cd)) (leaving (envOfC qual scope s.heap.objs.size f cd) e) (fun _ s'' => CX outer H s E e s'') (fun e' s'' => CX outer H s E e' s'') s'
theorem cell_has {sc : Scope} {n : Nat} {x : Str} (h : sc.names.lookup x = some .cell) : ∃ c,(cellsFrom n sc.names []).lookup x = some c := by
  have q := PySem.W.cellsFrom_some sc.names n [] (.inl h)
  exact Option.isSome_iff_exists.mp q
theorem inv_start {CX : CXT} {P : Program} {w : World} {K : PySem.W.Frag} {mg : Str → Option Value} {base : Heap} {N ps : List Str} {qual : Str} {scope : Scope} {f : Addr} {cd : Value} {A : Around} {outer : List Env} {s s1 : Shared} {H : Hp} {E : XK} {us : List Value} {vs : List V}
    (S : FnScope N ps scope) (hd : A.handled = none) (e0 : Env0 P w K mg base A outer s H) (hl : vs.length = ps.length) (r : Vals vs us)
    (x : InCallC s s.heap.objs.size (bindL (envOfC qual scope s.heap.objs.size f cd).kindOf (ps.zip us) fun _ => none) (cellsFrom (s.heap.objs.size + 1) scope.names []) (bindC (envOfC qual scope s.heap.objs.size f cd).kindOf (ps.zip us) fun _ => none) s1) :
    Inv (cxOf CX P w K mg base N qual scope f cd A outer s H E) [] (start N vs) H s1 := by
  have hpl : ps.length ≤ N.length := by have := congrArg List.length S.pre; rw [List.length_take] at this; omega
  obtain ⟨h1,tk,rfl,hk⟩ := x.done
  have noA : ∀ b : Addr,b ∉ (cxOf CX P w K mg base N qual scope f cd A outer s H E).ex := fun b z => absurd (show b ∈ ([] : List Addr) from z) (by simp)
  refine ⟨⟨e0.mod,S.kind,rfl,rfl,Nat.le_refl _,fun y z c h1 h2 => ?_,fun y hy => ?_,fun y c _ h => ?_,fun _ => hd,Around.frames_deeper e0.frames,.inr ⟨rfl,rfl⟩,fun b z => absurd z (noA b),e0.bs,e0.bsz,fun b _ _ => noA b,fun b z => absurd z (noA b),e0.funs,e0.frf⟩,
    rfl,e0.bare,Un.kept hk,⟨_,x.toInCall.ns,fun i y v h1 h2 h3 => ?_⟩,fun y c h => ⟨_,x.cell y c h⟩,e0.hok.fresh (Nat.le_refl _),fun y c h => ?_,fun p hp => absurd (show p ∈ ([] : List (Addr × Obj)) from hp) (by simp),e0.hok.kept hk,?_⟩
  · exact name_of_addr x.apart (PySem.mem_of_lookup h1) (PySem.mem_of_lookup h2)
  · have hy : scope.names.lookup y = some .cell ∨ scope.names.lookup y = some .free := hy
    rcases hy with hy | hy
    · exact cell_has hy
    · exact absurd rfl (S.nofree _ (PySem.mem_of_lookup hy))
  · exact Nat.le_of_lt (x.above y c (PySem.mem_of_lookup h))
  · have hi : i < vs.length := by
      unfold start at h2
      by_cases hi : i < vs.length
      · exact hi
      · rw [List.getElem?_append_right (by simpa using hi)] at h2
        rw [List.getElem?_replicate] at h2
        split at h2 <;> cases h2
    have ha : vs[i]? = some v := by
      unfold start at h2
      rw [List.getElem?_append_left (by simpa using hi),List.getElem?_map] at h2
      cases e : vs[i]? with
      | none => rw [e] at h2; cases h2
      | some a => rw [e] at h2; cases h2; rfl
    obtain ⟨u,hu,rv⟩ := r.get ha
    have hp : ps[i]? = some y := by
      rw [← S.pre,List.getElem?_take_of_lt (by omega)]; exact h1
    have ndP : ps.Nodup := by rw [← S.pre]; exact S.nd.sublist (List.take_sublist _ _)
    refine ⟨u,rv,?_⟩
    rcases S.par y (List.mem_of_getElem? hp) with k | k
    · exact .inl ⟨k,bindL_get ndP hp hu k⟩
    · obtain ⟨c,e⟩ := cell_has (n := s.heap.objs.size + 1) k
      refine .inr ⟨.inl k,c,e,?_⟩
      have q := x.cell y c e
      rw [bindC_get ndP hp hu (by show scope.names.lookup y ≠ _; rw [k]; decide)] at q
      exact q
  · exact e0.hok.fresh (Nat.le_of_lt (x.above y c (PySem.mem_of_lookup h)))
  · unfold start
    show _ = N.length
    rw [List.length_append,List.length_map,List.length_replicate]
    omega
theorem fn_of {CX : CXT} {P : Program} {w : World} {K : PySem.W.Frag} {mg : Str → Option Value} {base : Heap} {k : Nat} {f : Addr} {name qual : Str} {params : Arguments} {body : List Stmt} {scope : Scope} {dV kV doc pm cdv ct oc : Value} {an od : Option Addr}
    {osl : Array (Option Value)} {N ps : List Str} {sp : Sp} (lk : K.lookup f = some ⟨oc,od,.func (PySem.W.fnOf name qual params body scope dV kV doc pm an cdv ct),osl⟩) (hcd : PySem.W.codeIn K cdv qual = true) (S : FnScope N ps scope)
    (len : ∀ vs H Q E,sp vs H Q E → vs.length = ps.length)
    (hbody : ∀ (A : Around) (outer : List Env) (s : Shared) (H : Hp) (vs : List V) (Q : VK) (E : XK),Room k (A.deeper (envOfC qual scope s.heap.objs.size f cdv)) → sp vs H Q E →
      ∃ t,PSs (cxOf CX P w K mg base N qual scope f cdv A outer s H E) body t ∧ t { nx := fun _ H' => Q .non H',rt := Q } (start N vs) H) :
    FnOk P w K mg base CX (k + 1) f (PySem.W.fnOf name qual params body scope dV kV doc pm an cdv ct) ps sp := by
  refine ⟨len,fun A outer s H args us vs Q E hr e0 hb r hsp => ?_⟩
  have hl := len _ _ _ _ hsp
  have KX : K.In s.heap := e0.mod.kin.keeps fun b o e => (e0.bs b o e).1
  have lim : s.heap.NoLimit := e0.mod.nolimit.keeps fun b o e => (e0.bs b o e).1
  have hkind : ∀ y ∈ ps.zip us,scope.names.lookup y.1 = some .local ∨ (scope.names.lookup y.1 = some .cell ∧ ((cellsFrom (s.heap.objs.size + 1) scope.names []).lookup y.1).isSome = true) := fun ⟨n,v⟩ hy => by
    rcases S.par n (List.of_mem_zip hy).1 with q | q
    · exact .inl q
    · exact .inr ⟨q,PySem.W.cellsFrom_some _ _ _ (.inl q)⟩
  refine codeAny_call_function hr.depth (KX _ _ lk) rfl S.co S.gen rfl (PySem.W.codeRec_of KX hcd) (hb _ _ _ _ ?_)
  refine wpAny_newFunctionEnv_cells S.kind hkind fun env he s1 x => ?_
  subst he
  refine ⟨lim.keeps x.toInCall.keep,codeAny_func ?_⟩
  obtain ⟨t,ht,hq⟩ := hbody A outer s H vs Q E (hr.deeper _) hsp
  have I : Inv (cxOf CX P w K mg base N qual scope f cdv A outer s H E) [] (start N vs) H s1 := inv_start S hr.hd e0 hl r x
  refine wpAny_mono (ht [] s1 (start N vs) H _ I hq) (fun fl s' hs => ?_) fun e s' hs => hs
  have fin : ∀ {σ' : St} {H' : Hp} {v : V} {u : Value},Inv (cxOf CX P w K mg base N qual scope f cdv A outer s H E) [] σ' H' s' → RelV v u → Q v H' → CE outer P w H s Q u s' :=
    fun {σ' H' v u} J rv q => ⟨v,H',J.os,J.bare,J.base,J.hok,rv,q⟩
  cases fl with
  | ret u =>
    obtain ⟨v,σ',H',J,rv,q⟩ := hs
    exact fin J rv q
  | next =>
    obtain ⟨σ',H',J,q⟩ := hs
    exact fin (v := V.non) (u := Value.none) J rfl q
  | brk =>
    obtain ⟨_,_,_,q⟩ := hs
    exact False.elim q
  | cont =>
    obtain ⟨_,_,_,q⟩ := hs
    exact False.elim q
end L2
namespace L2
open PySem PySem.Spec PyProof.Rows
section
variable {X : Cx} {x : Str} {p pos : Pos} {e : Expr} {es : List Expr} {t : TA} {id T : String} {r : List V → Hp → VK → Prop}
def tCB (r : List V → Hp → VK → Prop) (t : TA) : TE := fun σ H Q => t σ H fun vs H1 => r vs H1 Q
theorem pe_callB (hc : CallR X (.builtin id) r) (hg : Gl X x) (hm : X.mg x = none) (hv : bootBuiltins x = some (.builtin id)) (ha : PA X (e :: es) t) (hn : x ≠ "__name__" := by decide) (hdb : (x == ("__debug__" : Str)) = false := by decide)
    (he : starEach (e :: es) X.env = (false,eval e X.env) :: starEach es X.env := by rfl) (hpl : (backTo pos (starEach es X.env)).any (·.1) = false := by rfl) : PE X (.Call (.Name x p) (e :: es) [] pos) (tCB r t) := by
  intro pins s σ H Q I h
  refine wpAny_Call_Name_kw (ld_blt I hg hm hv ?_ hn hdb)
  exact PyProof.Rows.callWith_builtin1 (thn (ha pos pins s σ H _ I h) fun us s1 ⟨vs,H1,I1,r1,q1⟩ => hc pins s1 σ H1 vs us Q I1 r1 q1) he hpl
theorem pe_callTy (hc : CallR X (.type T) r) (hg : Gl X x) (hm : X.mg x = none) (hv : bootBuiltins x = some (.type T)) (ha : PA X (e :: es) t) (hn : x ≠ "__name__" := by decide) (hdb : (x == ("__debug__" : Str)) = false := by decide)
    (he : starEach (e :: es) X.env = (false,eval e X.env) :: starEach es X.env := by rfl) (hpl : (backTo pos (starEach es X.env)).any (·.1) = false := by rfl) : PE X (.Call (.Name x p) (e :: es) [] pos) (tCB r t) := by
  intro pins s σ H Q I h
  refine wpAny_Call_Name_kw (ld_blt I hg hm hv ?_ hn hdb)
  exact PyProof.Rows.callWith_type1 (thn (ha pos pins s σ H _ I h) fun us s1 ⟨vs,H1,I1,r1,q1⟩ => hc pins s1 σ H1 vs us Q I1 r1 q1) he hpl
end
end L2
namespace HT
open PySem PyProof.Rows
section
open PySem.SeqAt
open PySem.AutoSeq1 (wpAny_loadPart')
open PySem.MeetsSeq PySem.MeetsSeq2 PySem.MeetsSeq3
end
section
variable {prog : Program} {w : World} {A : Around} {E : Value → Shared → Prop} {s : Shared}
def sIx (n d : Nat) : Option Int → Nat
  | none => d
  | some v => if v < 0 then (v + (n : Int)).toNat else min v.toNat n
end
end HT
namespace L2
open PySem PySem.Spec PyProof.Rows
abbrev TO := St → Hp → (Option Int → Hp → Prop) → Prop
def PO (X : Cx) (e : Option Expr) (t : TO) : Prop :=
  ∀ (pins : List (Addr × Obj)) (s : Shared) (σ : St) (H : Hp) (Q : Option Int → Hp → Prop),Inv X pins σ H s → t σ H Q →
    wpAny (model X.prog X.w) X.A (evalPart e X.env) (fun u s' => ∃ o H',Inv X pins σ H' s' ∧ IsPart u o ∧ Q o H') X.xe s
def tNoPart : TO := fun _ H Q => Q none H
def tPart (t : TE) : TO := fun σ H Q => t σ H fun x H1 => ∃ i,x = .int i ∧ Q (some i) H1
section
variable {X : Cx} {e : Expr} {te : TE} {lo hi : Option Expr} {tl th : TO} {pos p2 : Pos}
theorem po_none : PO X none tNoPart := by
  intro pins s σ H Q I h
  rw [evalPart_none]
  exact wpAny_pure ⟨none,H,I,.none,h⟩
theorem po_some (h : PE X e te) : PO X (some e) (tPart te) := by
  intro pins s σ H Q I hw
  rw [evalPart_some]
  refine thn (h pins s σ H _ I hw) fun u s1 ⟨x,H1,I1,r1,q1⟩ => ?_
  obtain ⟨i,rfl,q⟩ := q1
  obtain ⟨t,rfl⟩ := r1
  exact ⟨some i,H1,I1,.int i t,q⟩
def SlR (X : Cx) (r : V → Option Int → Option Int → Hp → VK → Prop) : Prop :=
  ∀ (pins : List (Addr × Obj)) (s : Shared) (σ : St) (H : Hp) (x : V) (v vl vu : Value) (lo hi : Option Int) (sl : Addr) (Q : VK),Inv X pins σ H s → RelV x v → s.heap.IsSliceOf sl vl vu .none → IsPart vl lo → IsPart vu hi → r x lo hi H Q →
    ∃ T id,typeLookup (.type T) "__getitem__" = pure (some (.builtin id)) ∧ s.TypeIs v T ∧ wpAny (model X.prog X.w) X.A (getItem v (.ref sl)) (EP X pins σ Q) X.xe s
def tSl (r : V → Option Int → Option Int → Hp → VK → Prop) (te : TE) (tl th : TO) : TE := fun σ H Q => te σ H fun x H1 => tl σ H1 fun l H2 => th σ H2 fun u H3 => r x l u H3 Q
theorem pe_slice {r : V → Option Int → Option Int → Hp → VK → Prop} (hr : SlR X r) (he : PE X e te) (hl : PO X lo tl) (hu : PO X hi th) : PE X (.Subscript e (.Slice lo hi none p2) pos) (tSl r te tl th) := by
  intro pins s σ H Q I h
  refine Subscript_ (thn (he pins s σ H _ I h) fun v s1 ⟨x,H1,I1,r1,q1⟩ => ?_)
  refine wpAny_Slice (thn (hl pins s1 σ H1 _ I1 q1) fun vl s2 ⟨l,H2,I2,pl,q2⟩ => thn (hu pins s2 σ H2 _ I2 q2) fun vu s3 ⟨u,H3,I3,pu,q3⟩ => ?_)
  rw [evalPart_none]
  refine wpAny_pure ?_
  have I4 : Inv X pins σ H3 { s3 with heap := s3.heap.push { cls := .type "slice",data := .fields #[vl,vu,.none] } } := I3.kept (t' := s3.toks) fun b ob q => Heap.get?_push_of_some _ q
  obtain ⟨T,id,hT,ht,hg⟩ := hr pins { s3 with heap := s3.heap.push { cls := .type "slice",data := .fields #[vl,vu,.none] } } σ H3 x v vl vu l u s3.heap.objs.size Q I4 r1 (Heap.IsSliceOf.new ..) pl pu q3
  show wpAny (model X.prog X.w) X.A (subscriptTail e (.Slice lo hi none p2) v (.ref s3.heap.objs.size)) (EP X pins σ Q) X.xe { s3 with heap := s3.heap.push { cls := .type "slice",data := .fields #[vl,vu,.none] } }
  exact tail_any (ops := [.ref s3.heap.objs.size,v]) ht hT hg (by with_unfolding_all rfl)
def cutV (xs : List V) (lo hi : Option Int) : List V := (xs.drop (HT.sIx xs.length 0 lo)).take (HT.sIx xs.length xs.length hi - HT.sIx xs.length 0 lo)
theorem cutV_length (xs : List V) (lo hi : Option Int) : (cutV xs lo hi).length ≤ xs.length := by
  unfold cutV
  rw [List.length_take,List.length_drop]
  omega
end
end L2
namespace L2
open PySem PySem.Spec PyProof.Rows
def ixN (n : Nat) (i : Int) : Option Nat := if 0 ≤ i then (if i < n then some i.toNat else none) else if -(n : Int) ≤ i then some (i + n).toNat else none
def atI {α : Type} (xs : List α) (i : Int) : Option α := (ixN xs.length i).bind fun j => xs[j]?
theorem ixN_seq {n : Nat} {i : Int} {j : Nat} (h : ixN n i = some j) : seqIndex? i n = some j ∧ j < n ∧ -(n : Int) ≤ i ∧ i < n := by
  unfold ixN at h
  by_cases h0 : 0 ≤ i
  · rw [if_pos h0] at h
    by_cases h1 : i < n
    · rw [if_pos h1] at h
      have e : i.toNat = j := Option.some.inj h
      exact ⟨by rw [seqIndex_of h0 h1,e],by omega,by omega,h1⟩
    · rw [if_neg h1] at h; cases h
  · rw [if_neg h0] at h
    by_cases h1 : -(n : Int) ≤ i
    · rw [if_pos h1] at h
      have e : (i + n).toNat = j := Option.some.inj h
      exact ⟨by rw [seqIndex_neg (by omega) h1,e],by omega,h1,by omega⟩
    · rw [if_neg h1] at h; cases h
theorem atI_get {α : Type} {xs : List α} {i : Int} {v : α} (h : atI xs i = some v) : ∃ j,seqIndex? i xs.length = some j ∧ xs[j]? = some v ∧ j < xs.length ∧ -(xs.length : Int) ≤ i ∧ i < xs.length := by
  unfold atI at h
  cases e : ixN xs.length i with
  | none => rw [e] at h; cases h
  | some j =>
    rw [e] at h
    obtain ⟨h1,h2,h3,h4⟩ := ixN_seq e
    exact ⟨j,h1,h,h2,h3,h4⟩
theorem atI_nat {α : Type} {xs : List α} {j : Nat} {v : α} (h : xs[j]? = some v) : atI xs (j : Int) = some v := by
  have hj : j < xs.length := (List.getElem?_eq_some_iff.mp h).1
  have e : ixN xs.length (j : Int) = some j := by
    unfold ixN
    rw [if_pos (by omega),if_pos (by omega)]; simp
  unfold atI; rw [e]; exact h
def PlainIx (b : Expr) : Prop := ∀ o i,subscripted b false o i = operate [o,i] (getItem o i)
def IxR (X : Cx) (r : R2) : Prop :=
  ∀ (value slice : Expr) (pins : List (Addr × Obj)) (s : Shared) (σ : St) (H : Hp) (x y : V) (v u : Value) (Q : VK),Inv X pins σ H s → RelV x v → RelV y u → r x y H Q →
    subscripted slice false v u = operate [v,u] (getItem v u) → wpAny (model X.prog X.w) X.A (subscriptTail value slice v u) (EP X pins σ Q) X.xe s
def MtR (X : Cx) (id : String) (r : V → List V → Hp → VK → Prop) : Prop :=
  ∀ (pins : List (Addr × Obj)) (s : Shared) (σ : St) (H : Hp) (x : V) (xs : List V) (v : Value) (us : List Value) (Q : VK),Inv X pins σ H s → RelV x v → Vals xs us → r x xs H Q →
    wpAny (model X.prog X.w) X.A (call (.builtin id) (v :: us)) (EP X pins σ Q) X.xe s
section
variable {X : Cx} {a b : Expr} {ta tb : TE} {pos : Pos}
theorem pe_ix {r : R2} (hr : IxR X r) (ha : PE X a ta) (hb : PE X b tb) (hs : PlainIx b) : PE X (.Subscript a b pos) (tOp r ta tb) := by
  intro pins s σ H Q I h
  exact Subscript_ (binT ha hb I h fun v u s2 x y H2 I2 rx ry q => hr a b pins s2 σ H2 x y v u Q I2 rx ry q (hs _ _))
inductive rIxL (K : PySem.W.Frag) (x y : V) (H : Hp) (Q : VK) : Prop
  | mk (p : Addr) (xs : List V) (i : Int) (v : V) (e : x = .ref p) (f : y = .int i) (s : SqL K H p xs) (a : atI xs i = some v) (q : Q v H) : rIxL K x y H Q
inductive rIxT (K : PySem.W.Frag) (x y : V) (H : Hp) (Q : VK) : Prop
  | mk (p : Addr) (xs : List V) (i : Int) (v : V) (e : x = .ref p) (f : y = .int i) (s : SqT K H p xs) (a : atI xs i = some v) (q : Q v H) : rIxT K x y H Q
def rIxS : R2 := fun x y H Q => ∃ z i c,x = .str z ∧ y = .int i ∧ z.length ≤ sizeLine ∧ atI z.cps.toList i = some c ∧ Q (.str ⟨#[c]⟩) H
theorem ix_list : IxR X (rIxL X.K) := by
  intro value slice pins s σ H x y v u Q I rx ry h hs
  obtain ⟨p,xs,i,z,rfl,rfl,hq,he,q⟩ := h
  cases rx
  obtain ⟨t,rfl⟩ := ry
  obtain ⟨its,r,pl,hz⟩ := I.list hq
  obtain ⟨j,h1,h2,h3,h4,h5⟩ := atI_get he
  obtain ⟨w,ew,rw'⟩ := r.get h2
  have hl := r.length
  have hn := line63
  have fin : EP X pins σ Q w s := ⟨z,H,I,rw',q⟩
  by_cases h0 : 0 ≤ i
  · have hj : i.toNat = j := by
      rw [seqIndex_of h0 h5] at h1
      exact Option.some.inj h1
    exact item_listR pl.isList h0 (by omega) (by rw [hj]; simpa using ew) fin hs
  · have hj : (i + (its.toArray.size : Int)).toNat = j := by
      rw [seqIndex_neg (by omega) h4] at h1
      rw [List.size_toArray,← hl]
      exact Option.some.inj h1
    exact subscriptTail_builtinR (x := w) pl.isList.typeIs slot_list_getitem.lookup
      (wpAny_getItem_list_neg (Q := fun r s' => r = w ∧ EP X pins σ Q r s') pl.isList (by omega) (by rw [List.size_toArray] <;> omega) (by omega) (by rw [hj]; simpa using ew) ⟨rfl,fin⟩) hs
theorem ix_tup : IxR X (rIxT X.K) := by
  intro value slice pins s σ H x y v u Q I rx ry h hs
  obtain ⟨p,xs,i,z,rfl,rfl,hq,he,q⟩ := h
  cases rx
  obtain ⟨t,rfl⟩ := ry
  obtain ⟨its,r,pl,hz⟩ := I.tuple hq
  obtain ⟨j,h1,h2,h3,h4,h5⟩ := atI_get he
  obtain ⟨w,ew,rw'⟩ := r.get h2
  have hl := r.length
  have hn := line63
  have fin : EP X pins σ Q w s := ⟨z,H,I,rw',q⟩
  exact subscriptTail_builtinR (x := w) pl.typeIs slot_tuple_getitem.lookup
    (getItem_tuple (j := j) (Q := fun r s' => r = w ∧ EP X pins σ Q r s') pl (by omega) (by omega) (by rw [List.size_toArray,← hl]; exact h1) (by simpa using ew) ⟨rfl,fin⟩) hs
theorem ix_str : IxR X rIxS := by
  intro value slice pins s σ H x y v u Q I rx ry h hs
  obtain ⟨z,i,c,rfl,rfl,hz,he,q⟩ := h
  obtain ⟨t,rfl⟩ := rx
  obtain ⟨t',rfl⟩ := ry
  obtain ⟨j,h1,h2,h3,h4,h5⟩ := atI_get he
  have hl : z.cps.toList.length = z.length := by simp [Str.length]
  rw [hl] at h1 h4 h5
  have hn := line63
  exact tail_any (typeIs_str s z t) slot_str_getitem.lookup (getItem_str (c := c) (by
    have e1 : decide (i < -(2 ^ 63 : Int)) = false := decide_eq_false (by omega)
    have e2 : decide (i ≥ 2 ^ 63) = false := decide_eq_false (by omega)
    rw [e1,e2,Bool.or_false]) (by rw [h1]; simpa using h2) ⟨.str ⟨#[c]⟩,H,I.tok _,⟨_,rfl⟩,q⟩) hs
theorem mapSeq_set (its : List Value) (n j : Nat) (u : Value) : Obj.mapSeq (·.setIfInBounds j u) { cls := .type "list",data := .seq its.toArray n } = { cls := .type "list",data := .seq (its.set j u).toArray n } := by
  simp [Obj.mapSeq]
theorem Inv.lst {pins : List (Addr × Obj)} {σ : St} {H : Hp} {s : Shared} {p : Addr} {xs : List V} (I : Inv X pins σ H s) (h : H p = some (.lst xs)) :
    ∃ (its : List Value) (n : Nat),Vals xs its ∧ s.heap.get? p = some { cls := .type "list",data := .seq its.toArray n } ∧ xs.length ≤ sizeLine := by
  obtain ⟨z,its,n,r,e⟩ := I.hok p _ h
  exact ⟨its,n,r,e,z⟩
theorem Inv.lstUpd {pins : List (Addr × Obj)} {σ : St} {H : Hp} {s : Shared} {p : Addr} {xs ys : List V} {its its' : List Value} {n n' : Nat} {f : Obj → Obj} (I : Inv X pins σ H s) (h : H p = some (.lst xs))
    (ho : s.heap.get? p = some { cls := .type "list",data := .seq its.toArray n }) (hf : f { cls := .type "list",data := .seq its.toArray n } = { cls := .type "list",data := .seq its'.toArray n' }) (r : Vals ys its') (hz : ys.length ≤ sizeLine) (t : Nat) :
    Inv X pins σ (upd H p (.lst ys)) { s with heap := s.heap.update p f,toks := t } := by
  have e : (s.heap.update p f).get? p = some { cls := .type "list",data := .seq its'.toArray n' } := by
    rw [Heap.get?_update_self f ho (by rw [hf] <;> rfl),hf]
  refine I.write (x := p) (e := p) (by rw [h]; trivial) (.inl rfl) (fun b u hb q => (Heap.get?_update_other _ _ (Ne.symm hb)).trans q) ⟨_,e⟩ ?_
  exact ⟨hz,its',n',r,e⟩
def rSetL : V → V → V → Hp → (Hp → Prop) → Prop := fun o i v H Q => ∃ p xs k j,o = .ref p ∧ i = .int k ∧ H p = some (.lst xs) ∧ ixN xs.length k = some j ∧ Q (upd H p (.lst (xs.set j v)))
theorem set_list : PSet X rSetL := by
  intro pins s σ H o i v ov iv u Q I ro ri rv h
  obtain ⟨p,xs,k,j,rfl,rfl,hp,hj,q⟩ := h
  cases ro
  obtain ⟨t,rfl⟩ := ri
  obtain ⟨its,n,r,ho,hz⟩ := I.lst hp
  obtain ⟨h1,h2,h3,h4⟩ := ixN_seq hj
  have hl := r.length
  have hn := line63
  have I' : Inv X pins σ (upd H p (.lst (xs.set j v))) { s with heap := s.heap.update p (Obj.mapSeq (·.setIfInBounds j u)) } :=
    I.lstUpd hp ho (mapSeq_set its n j u) (r.set rv j) (by rw [List.length_set]; exact hz) s.toks
  by_cases h0 : 0 ≤ k
  · have hk : k.toNat = j := by
      rw [seqIndex_of h0 h4] at h1
      exact Option.some.inj h1
    exact PySem.W.ki_setAt ho h0 (by omega) (by rw [List.size_toArray,← hl]; exact h4) (by rw [hk]; exact ⟨_,I',q⟩)
  · have hk : (k + (its.toArray.size : Int)).toNat = j := by
      rw [seqIndex_neg (by omega) h3] at h1
      rw [List.size_toArray,← hl]
      exact Option.some.inj h1
    exact PySem.W.ki_setBack ho (by omega) (by rw [List.size_toArray,← hl]; exact h3) (by omega) (by rw [hk]; exact ⟨_,I',q⟩)
theorem slice_bounds (lo hi : Option Int) (n : Nat) : (sliceBounds lo hi none n).1 = ((HT.sIx n 0 lo : Nat) : Int) ∧ (sliceBounds lo hi none n).2.1 = ((HT.sIx n n hi : Nat) : Int) ∧ (sliceBounds lo hi none n).2.2 = 1 := by
  refine ⟨?_,?_,rfl⟩
  · cases lo with
    | none => simp [sliceBounds,HT.sIx]
    | some i =>
      simp only [sliceBounds,HT.sIx,Option.getD_none,show (1 : Int) > 0 by decide,if_true]
      by_cases h : i < 0
      · simp only [h,if_true] <;> omega
      · simp only [h,if_false] <;> omega
  · cases hi with
    | none => simp [sliceBounds,HT.sIx]
    | some i =>
      simp only [sliceBounds,HT.sIx,Option.getD_none,show (1 : Int) > 0 by decide,if_true]
      by_cases h : i < 0
      · simp only [h,if_true] <;> omega
      · simp only [h,if_false] <;> omega
theorem slicePick_cut (its : List Value) (lo hi : Option Int) : slicePick its.toArray lo hi none = ((its.drop (HT.sIx its.length 0 lo)).take (HT.sIx its.length its.length hi - HT.sIx its.length 0 lo)).toArray := by
  obtain ⟨h1,h2,h3⟩ := slice_bounds lo hi its.toArray.size
  unfold slicePick
  rw [h1,h2,h3]
  simp only [sliceRange_one,pick_run,List.size_toArray] <;> rfl
def rSlL (K : PySem.W.Frag) : V → Option Int → Option Int → Hp → VK → Prop := fun x lo hi H Q => ∃ a xs,x = .ref a ∧ SqL K H a xs ∧ ∀ p,H p = none → Q (.ref p) (upd H p (.lst (cutV xs lo hi)))
theorem sl_list : SlR X (rSlL X.K) := by
  intro pins s σ H x v vl vu lo hi sl Q I rx hs pl pu h
  obtain ⟨a,xs,rfl,hx,q⟩ := h
  cases rx
  obtain ⟨its,r,ht,hz⟩ := I.list hx
  have hlen := r.length
  refine ⟨"list",_,slot_list_getitem.lookup,ht.isList.typeIs,?_⟩
  refine wpAny_getItem_list_slice ht.isList hs pl pu .none (by simp) ?_ (by rw [List.size_toArray] <;> omega)
  rw [slicePick_cut,← hlen]
  refine ⟨.ref s.heap.objs.size,_,I.laid (t' := s.toks) (o := .lst (cutV xs lo hi)) (fun b ob q => Heap.get?_push_of_some _ q) (Nat.le_refl _) ?_,rfl,q _ (I.hok.fresh (Nat.le_refl _))⟩
  exact ⟨Nat.le_trans (cutV_length xs lo hi) hz,_,0,(r.drop (HT.sIx xs.length 0 lo)).take (HT.sIx xs.length xs.length hi - HT.sIx xs.length 0 lo),Heap.get?_push_size _ rfl⟩
def flatV : V → Bool
  | .non => true
  | .bl _ => true
  | .int _ => true
  | .str _ => true
  | _ => false
def eqV : V → V → Bool
  | .non,.non => true
  | .bl a,.bl b => a == b
  | .bl a,.int b => (if a then 1 else 0) == b
  | .int a,.bl b => a == (if b then 1 else 0)
  | .int a,.int b => a == b
  | .str a,.str b => a == b
  | _,_ => false
theorem eqAt_V {A : Around} {s : Shared} {y x : V} {u v : Value} (ry : RelV y u) (rx : RelV x v) (fy : flatV y = true) (fx : flatV x = true) : SeqAt.EqAt A s u v (eqV y x) := by
  cases y with
  | non =>
    cases ry
    cases x with
    | non => cases rx; exact SeqAt.EqAt.same _
    | bl b => cases rx; exact SeqAt.EqAt.none_bool b
    | int b => obtain ⟨t,rfl⟩ := rx; exact SeqAt.EqAt.none_int b t
    | str b => obtain ⟨t,rfl⟩ := rx; exact SeqAt.EqAt.none_str b t
    | _ => exact absurd (show false = true from fx) Bool.false_ne_true
  | bl a =>
    cases ry
    cases x with
    | non => cases rx; exact SeqAt.EqAt.bool_none a
    | bl b => cases rx; exact SeqAt.EqAt.bool_bool a b
    | int b => obtain ⟨t,rfl⟩ := rx; exact SeqAt.EqAt.bool_int a b t
    | str b => obtain ⟨t,rfl⟩ := rx; exact SeqAt.EqAt.bool_str a b t
    | _ => exact absurd (show false = true from fx) Bool.false_ne_true
  | int a =>
    obtain ⟨t',rfl⟩ := ry
    cases x with
    | non => cases rx; exact SeqAt.EqAt.int_none a t'
    | bl b => cases rx; exact SeqAt.EqAt.int_bool a t' b
    | int b => obtain ⟨t,rfl⟩ := rx; exact SeqAt.EqAt.int_int a t' b t
    | str b => obtain ⟨t,rfl⟩ := rx; exact SeqAt.EqAt.int_str a t' b t
    | _ => exact absurd (show false = true from fx) Bool.false_ne_true
  | str a =>
    obtain ⟨t',rfl⟩ := ry
    cases x with
    | non => cases rx; exact SeqAt.EqAt.str_none a t'
    | bl b => cases rx; exact SeqAt.EqAt.str_bool a t' b
    | int b => obtain ⟨t,rfl⟩ := rx; exact SeqAt.EqAt.str_int a t' b t
    | str b => obtain ⟨t,rfl⟩ := rx; exact SeqAt.EqAt.str_str a t' b t
    | _ => exact absurd (show false = true from fx) Bool.false_ne_true
  | _ => exact absurd (show false = true from fy) Bool.false_ne_true
def eqU (x : V) (u : Value) : Bool := match u with
  | .none => eqV .non x
  | .bool b => eqV (.bl b) x
  | .int i _ => eqV (.int i) x
  | .str z _ => eqV (.str z) x
  | _ => false
theorem eqU_of {x y : V} {u : Value} (r : RelV y u) (f : flatV y = true) : eqU x u = eqV y x := by
  cases y with
  | non => cases r; rfl
  | bl b => cases r; rfl
  | int i => obtain ⟨t,rfl⟩ := r; rfl
  | str z => obtain ⟨t,rfl⟩ := r; rfl
  | _ => exact absurd (show false = true from f) Bool.false_ne_true
theorem any_eqU {x : V} : ∀ {xs : List V} {us : List Value},Vals xs us → xs.all flatV = true → us.any (eqU x) = xs.any fun y => eqV y x
  | _,_,.nil,_ => rfl
  | y :: xs,u :: us,.cons r t,f => by
    rw [List.all_cons,Bool.and_eq_true] at f
    rw [List.any_cons,List.any_cons,eqU_of r f.1,any_eqU t f.2]
theorem mem_eqAt {A : Around} {s : Shared} {x : V} {v : Value} (rx : RelV x v) (fx : flatV x = true) : ∀ {xs : List V} {us : List Value},Vals xs us → xs.all flatV = true → ∀ u ∈ us,SeqAt.EqAt A s u v (eqU x u)
  | _,_,.nil,_ => fun u hu => by cases hu
  | y :: xs,u :: us,.cons r t,f => fun u' hu => by
    rw [List.all_cons,Bool.and_eq_true] at f
    rcases List.mem_cons.mp hu with rfl | hu
    · rw [eqU_of r f.1]; exact eqAt_V r rx f.1 fx
    · exact mem_eqAt rx fx t f.2 u' hu
def inV (x : V) (xs : List V) : Bool := xs.any fun y => eqV y x
def rIn (K : PySem.W.Frag) (neg : Bool) : R2 := fun x y H Q => ∃ p xs,y = .ref p ∧ (SqL K H p xs ∨ SqT K H p xs) ∧ flatV x = true ∧ xs.all flatV = true ∧ Q (.bl (if neg then !inV x xs else inV x xs)) H
theorem op_in_seq : OpR X (compareOp .In) (rIn X.K false) := by
  intro pins s σ H x y v u Q I rx ry h
  obtain ⟨p,xs,rfl,hq,fx,fs,q⟩ := h
  cases ry
  rcases hq with hq | hq
  · obtain ⟨its,r,pl,hz⟩ := I.list hq
    refine SeqAt.in_listAt (eqU x) pl.isList (fun w hw => mem_eqAt rx fx r fs w (by simpa using hw)) ⟨.bl _,H,I,rfl,?_⟩
    rw [show its.toArray.any (eqU x) = its.any (eqU x) by simp,any_eqU r fs]
    exact q
  · obtain ⟨its,r,pl,hz⟩ := I.tuple hq
    refine SeqAt.in_tupleAt (eqU x) pl (fun w hw => mem_eqAt rx fx r fs w (by simpa using hw)) ⟨.bl _,H,I,rfl,?_⟩
    rw [show its.toArray.any (eqU x) = its.any (eqU x) by simp,any_eqU r fs]
    exact q
theorem op_notIn_seq : OpR X (compareOp .NotIn) (rIn X.K true) := by
  intro pins s σ H x y v u Q I rx ry h
  obtain ⟨p,xs,rfl,hq,fx,fs,q⟩ := h
  cases ry
  rcases hq with hq | hq
  · obtain ⟨its,r,pl,hz⟩ := I.list hq
    refine SeqAt.notIn_listAt (eqU x) pl.isList (fun w hw => mem_eqAt rx fx r fs w (by simpa using hw)) ⟨.bl _,H,I,rfl,?_⟩
    rw [show its.toArray.any (eqU x) = its.any (eqU x) by simp,any_eqU r fs]
    exact q
  · obtain ⟨its,r,pl,hz⟩ := I.tuple hq
    refine SeqAt.notIn_tupleAt (eqU x) pl (fun w hw => mem_eqAt rx fx r fs w (by simpa using hw)) ⟨.bl _,H,I,rfl,?_⟩
    rw [show its.toArray.any (eqU x) = its.any (eqU x) by simp,any_eqU r fs]
    exact q
inductive rLenS (K : PySem.W.Frag) (xs : List V) (H : Hp) (Q : VK) : Prop
  | mk (p : Addr) (ys : List V) (e : xs = [.ref p]) (s : SqL K H p ys ∨ SqT K H p ys) (q : Q (.int ys.length) H) : rLenS K xs H Q
theorem call_len_seq : CallR X (.builtin "len") (rLenS X.K) := by
  intro pins s σ H xs us Q I r h
  obtain ⟨p,ys,rfl,hq,q⟩ := h
  obtain ⟨u,rfl,rx⟩ := vals1 r
  cases rx
  have hn := line63
  rcases hq with hq | hq
  · obtain ⟨its,r',pl,hz⟩ := I.list hq
    have hlen := r'.length
    exact Calls.call_len_list pl.isList (by simp only [List.size_toArray] <;> omega) ⟨.int ys.length,H,I.tok _,⟨s.toks + 1,by rw [List.size_toArray,hlen]⟩,q⟩
  · obtain ⟨its,r',pl,hz⟩ := I.tuple hq
    have hlen := r'.length
    exact len_tuple pl (by simp only [List.size_toArray] <;> omega) ⟨.int ys.length,H,I.tok _,⟨s.toks + 1,by rw [List.size_toArray,hlen]⟩,q⟩
theorem call_len_str : CallR X (.builtin "len") (fun xs H Q => ∃ z,xs = [.str z] ∧ z.length ≤ sizeLine ∧ Q (.int z.length) H) := by
  intro pins s σ H xs us Q I r h
  obtain ⟨z,rfl,hz,q⟩ := h
  obtain ⟨u,rfl,t,rfl⟩ := vals1 r
  have hn := line63
  exact len_str (by omega) ⟨.int z.length,H,I.tok _,⟨_,rfl⟩,q⟩
theorem call_list_of : CallR X (.type "list") (fun xs H Q => ∃ p ys,xs = [.ref p] ∧ (SqL X.K H p ys ∨ SqT X.K H p ys) ∧ ∀ l,H l = none → Q (.ref l) (upd H l (.lst ys))) := by
  intro pins s σ H xs us Q I r h
  obtain ⟨p,ys,rfl,hq,q⟩ := h
  obtain ⟨u,rfl,rx⟩ := vals1 r
  cases rx
  have fin : ∀ (its : List Value),Vals ys its → ys.length ≤ sizeLine → ∀ (h' : Heap) (c' : Nat),(∀ b o',s.heap.get? b = some o' → h'.get? b = some o') →
      h'.get? s.heap.objs.size = some { cls := .type "list",dict := none,data := .seq its.toArray c',slots := #[] } → EP X pins σ Q (.ref s.heap.objs.size) { s with heap := h' } := fun its r' hz h' c' kp e =>
    ⟨.ref s.heap.objs.size,_,I.laid (t' := s.toks) kp (Nat.le_refl _) (show ObjOk X.prog X.w _ h' _ (.lst ys) from ⟨hz,its,c',r',e⟩),rfl,q _ (I.hok.fresh (Nat.le_refl _))⟩
  rcases hq with hq | hq
  · obtain ⟨its,r',pl,hz⟩ := I.list hq
    have hlen := r'.length
    obtain ⟨o,ho,hc,n,hd⟩ := pl.isList
    exact call_list_seq p (.inl rfl) ho hc hd (fun h' c' kp e => fin its r' hz h' c' kp e) (by simp only [List.size_toArray] <;> omega)
  · obtain ⟨its,r',pl,hz⟩ := I.tuple hq
    have hlen := r'.length
    obtain ⟨o,ho,hc,n,hd⟩ := pl
    exact call_list_seq p (.inr rfl) ho hc hd (fun h' c' kp e => fin its r' hz h' c' kp e) (by simp only [List.size_toArray] <;> omega)
theorem call_tuple_of : CallR X (.type "tuple") (fun xs H Q => ∃ p ys,xs = [.ref p] ∧ ((SqL X.K H p ys ∧ ∀ l,H l = none → Q (.ref l) (upd H l (.tup ys))) ∨ (SqT X.K H p ys ∧ Q (.ref p) H))) := by
  intro pins s σ H xs us Q I r h
  obtain ⟨p,ys,rfl,h⟩ := h
  obtain ⟨u,rfl,rx⟩ := vals1 r
  cases rx
  rcases h with ⟨hq,q⟩ | ⟨hq,q⟩
  · obtain ⟨its,r',pl,hz⟩ := I.list hq
    have hlen := r'.length
    refine call_tuple_list pl.isList (fun h' kp => ?_) (by simp only [List.size_toArray] <;> omega)
    have I1 : Inv X pins σ H { s with heap := h' } := I.kept (t' := s.toks) kp
    have I2 : Inv X pins σ (upd H h'.objs.size (.tup ys)) { s with heap := h'.push { cls := .type "tuple",data := .seq its.toArray } } :=
      I1.laid (t' := s.toks) (fun b o e => Heap.get?_push_of_some _ e) (Nat.le_refl _) (show ObjOk X.prog X.w _ _ _ (.tup ys) from ⟨hz,its,r',IsTup.new _ _⟩)
    exact ⟨.ref h'.objs.size,_,I2,rfl,q _ (I1.hok.fresh (Nat.le_refl _))⟩
  · obtain ⟨its,r',pl,hz⟩ := I.tuple hq
    exact call_tuple_same pl ⟨.ref p,H,I,rfl,q⟩
def tyV (K : PySem.W.Frag) (T : String) (x : V) (H : Hp) : Prop := match x with
  | .str _ => T = "str"
  | .int _ => T = "int"
  | .ref p => (T = "list" ∧ ∃ xs,SqL K H p xs) ∨ (T = "tuple" ∧ ∃ o,K.lookup p = some o ∧ o.cls = .type "tuple" ∧ o.dict = none) ∨
      (T = "dict" ∧ ((∃ kvs,H p = some (.dK kvs)) ∨ ∃ kvs,H p = some (.dT kvs))) ∨ (T = "set" ∧ ∃ S n,H p = some (.set S n))
  | _ => False
theorem tyV_is {pins : List (Addr × Obj)} {σ : St} {H : Hp} {s : Shared} {T : String} {x : V} {v : Value} (I : Inv X pins σ H s) (r : RelV x v) (ty : tyV X.K T x H) :
    s.TypeIs v T ∧ ∀ a,v = .ref a → ∃ ob,s.heap.get? a = some ob ∧ ob.dict = none := by
  cases x with
  | str z =>
    obtain ⟨t,rfl⟩ := r
    cases (show T = "str" from ty)
    exact ⟨typeIs_str s z t,fun _ e => nomatch e⟩
  | int i =>
    obtain ⟨t,rfl⟩ := r
    cases (show T = "int" from ty)
    exact ⟨typeIs_int s i t,fun _ e => nomatch e⟩
  | ref p =>
    cases r
    rcases ty with ⟨rfl,xs,hq⟩ | ⟨rfl,o,hk,hc,hd⟩ | ⟨rfl,hk⟩ | ⟨rfl,S,n,hk⟩
    · obtain ⟨its,_,pl,_⟩ := I.list hq
      refine ⟨pl.isList.typeIs,fun a e => ?_⟩
      cases e
      obtain ⟨o,n,e,c,hd,_⟩ := pl
      exact ⟨o,e,hd⟩
    · refine ⟨⟨o,I.kIn p o hk,hc⟩,fun a e => ?_⟩
      cases e
      exact ⟨o,I.kIn _ o hk,hd⟩
    · have z : ∃ o,s.heap.get? p = some o ∧ o.ExactDict := by
        rcases hk with ⟨kvs,hk⟩ | ⟨kvs,hk⟩
        · obtain ⟨_,_,_,_,o,_,_,e,ex,_⟩ := I.hok p _ hk
          exact ⟨o,e,ex⟩
        · obtain ⟨_,_,_,_,o,_,_,e,ex,_⟩ := I.hok p _ hk
          exact ⟨o,e,ex⟩
      obtain ⟨o,e,ex⟩ := z
      refine ⟨⟨o,e,ex.1⟩,fun a e2 => ?_⟩
      cases e2
      exact ⟨o,e,ex.2.1⟩
    · obtain ⟨o,_,_,_,e,ex,_⟩ := I.hok p _ hk
      refine ⟨⟨o,e,ex.1⟩,fun a e2 => ?_⟩
      cases e2
      exact ⟨o,e,ex.2.1⟩
  | _ => exact False.elim ty
def tBM0 (K : PySem.W.Frag) (T : String) (r : V → List V → Hp → VK → Prop) (to : TE) : TE := fun σ H Q => to σ H fun x H1 => tyV K T x H1 ∧ r x [] H1 Q
def tBM (K : PySem.W.Frag) (T : String) (r : V → List V → Hp → VK → Prop) (to : TE) (t : TA) : TE := fun σ H Q => to σ H fun x H1 => tyV K T x H1 ∧ t σ H1 fun xs H2 => r x xs H2 Q
variable {o e : Expr} {es : List Expr} {to : TE} {t : TA} {name : Str} {apos cpos : Pos} {T id : String} {r : V → List V → Hp → VK → Prop}
theorem pe_bm0 (pa : PlainAttrs T) (slot : Slot T name id) (hty : typeOf (.builtin id) = pure (.type "method_descriptor")) (hm : MtR X id r) (ho : PE X o to)
    (hbase : attributeBase o name X.env (eval o X.env) = eval o X.env := by rfl) (hline : (apos.endLine == cpos.line) = true := by rfl) : PE X (.Call (.Attribute o name apos) [] [] cpos) (tBM0 X.K T r to) := by
  intro pins s σ H Q I h
  refine wpAny_Call_method0_late hbase hline (thn (ho pins s σ H _ I h) fun v s1 ⟨x,H1,I1,r1,ty,q1⟩ => ?_)
  obtain ⟨h1,h2⟩ := tyV_is I1 r1 ty
  exact ⟨T,id,pa,slot,hty,h1,h2,Calls.callWith_builtin rfl (PySem.evalArgs_none (hm pins s1 σ H1 x [] v [] Q I1 r1 .nil q1))⟩
theorem pe_bm (pa : PlainAttrs T) (slot : Slot T name id) (hty : typeOf (.builtin id) = pure (.type "method_descriptor")) (hm : MtR X id r) (ho : PE X o to) (ha : PA X (e :: es) t)
    (hbase : attributeBase o name X.env (eval o X.env) = eval o X.env := by rfl)
    (hfew : ((backTo cpos (starEach (e :: es) X.env)).all (fun x => !x.1) && (backToKw cpos (keywordEach [] X.env)).all (fun x => x.1.isSome)
      && decide ((e :: es).length + ([] : List Keyword).length + (if ([] : List Keyword).isEmpty then 0 else 1) < 30)) = true := by rfl)
    (hline : (apos.endLine == cpos.line) = true := by rfl) (hs : starEach (e :: es) X.env = (false,eval e X.env) :: starEach es X.env := by rfl) (hplain : (backTo cpos (starEach es X.env)).any (·.1) = false := by rfl) :
    PE X (.Call (.Attribute o name apos) (e :: es) [] cpos) (tBM X.K T r to t) := by
  intro pins s σ H Q I h
  refine wpAny_Call_method_late hbase hfew hline rfl (thn (ho pins s σ H _ I h) fun v s1 ⟨x,H1,I1,r1,ty,q1⟩ => ?_)
  obtain ⟨h1,h2⟩ := tyV_is I1 r1 ty
  refine ⟨T,id,pa,slot,hty,h1,h2,?_⟩
  have hA := ha cpos pins s1 σ H1 _ I1 q1
  rw [hs] at hA ⊢
  refine Calls.callWith_builtin (by show (false || (backTo cpos (starEach es X.env)).any (·.1)) = false; rw [hplain] <;> rfl) (Calls.evalArgs_plain ?_)
  exact thn hA fun us s2 ⟨vs,H2,I2,r2,q2⟩ => hm pins s2 σ H2 x vs v us Q I2 r1 r2 q2
end
end L2
namespace L2
open PySem PySem.Spec PyProof.Rows
def MtM (X : Cx) (id : String) (r : V → List V → Hp → VK → Prop) : Prop :=
  ∀ (pins : List (Addr × Obj)) (s : Shared) (σ : St) (H : Hp) (x : V) (xs : List V) (v : Value) (us : List Value) (Q : VK),Inv X pins σ H s → RelV x v → Vals xs us → r x xs H Q →
    wpAny (model X.prog X.w) X.A (call (.builtin id) (v :: us)) (EP X pins σ Q) X.xe s
theorem Vals.one : ∀ {x : V} {us : List Value},Vals [x] us → ∃ u,us = [u] ∧ RelV x u
  | _,_,.cons r .nil => ⟨_,rfl,r⟩
theorem Vals.zero : ∀ {us : List Value},Vals [] us → us = []
  | _,.nil => rfl
theorem Vals.dropLast {xs : List V} {us : List Value} (h : Vals xs us) : Vals xs.dropLast us.dropLast := by
  induction h with
  | nil => exact .nil
  | cons r t ih =>
    cases t with
    | nil => exact .nil
    | cons q t' => exact .cons r ih
theorem Vals.reverse {xs : List V} {us : List Value} (h : Vals xs us) : Vals xs.reverse us.reverse := by
  induction h with
  | nil => exact .nil
  | cons r t ih => rw [List.reverse_cons,List.reverse_cons]; exact Vals.append ih (.cons r .nil)
theorem Vals.rep {xs : List V} {us : List Value} (h : Vals xs us) : ∀ k : Nat,Vals (List.replicate k xs).flatten (List.replicate k us).flatten
  | 0 => .nil
  | k + 1 => by
    rw [List.replicate_succ,List.replicate_succ,List.flatten_cons,List.flatten_cons]
    exact Vals.append h (Vals.rep h k)
theorem erase_last {α : Type} (l : List α) : l.eraseIdx (l.length - 1) = l.dropLast := by
  induction l with
  | nil => rfl
  | cons a r ih =>
    cases r with
    | nil => rfl
    | cons b r =>
      have e : (a :: b :: r).length - 1 = ((b :: r).length - 1) + 1 := by
        have h1 : (a :: b :: r).length = r.length + 2 := rfl
        have h2 : (b :: r).length = r.length + 1 := rfl
        omega
      rw [e,List.eraseIdx_cons_succ,ih]
      all_goals rfl
theorem foldl_rep (its : List Value) : ∀ (k : Nat) (acc : List Value),
    List.foldl (fun x1 x2 => x1 ++ x2) acc.toArray (List.replicate k its.toArray) = (acc ++ (List.replicate k its).flatten).toArray
  | 0,acc => by simp
  | k + 1,acc => by
    have e : acc.toArray ++ its.toArray = (acc ++ its).toArray := by simp
    have e2 : (acc ++ its) ++ (List.replicate k its).flatten = acc ++ (List.replicate (k + 1) its).flatten := by
      rw [List.replicate_succ,List.flatten_cons,List.append_assoc]
    rw [← e2,← foldl_rep its k (acc ++ its),← e,List.replicate_succ,List.foldl_cons]
section
variable {X : Cx} {pins : List (Addr × Obj)} {σ : St} {H : Hp} {s : Shared} {l b : Addr} {xs ys zs : List V}
theorem Inv.lset {its its' : List Value} {n : Nat} {f : Array Value → Array Value} {t' : Nat} (I : Inv X pins σ H s) (hH : H l = some (.lst xs))
    (e : s.heap.get? l = some { cls := .type "list",data := .seq its.toArray n }) (hf : f its.toArray = its'.toArray) (hv : Vals ys its') (hz : ys.length ≤ sizeLine) :
    Inv X pins σ (upd H l (.lst ys)) { s with heap := s.heap.update l (Obj.mapSeq f),toks := t' } := by
  have q := PySem.IsL.update e f
  rw [hf] at q
  refine I.write (x := l) (e := l) (by rw [hH]; exact trivial) (.inl rfl) (fun b' u hb hu => (Heap.get?_update_other s.heap (Obj.mapSeq f) (Ne.symm hb)).trans hu) ⟨_,q⟩ ?_
  exact ⟨hz,its',_,hv,q⟩
theorem Inv.lnew {its : List Value} {t' : Nat} (I : Inv X pins σ H s) (hv : Vals ys its) (hz : ys.length ≤ sizeLine) :
    Inv X pins σ (upd H s.heap.objs.size (.lst ys)) { s with heap := s.heap.push { cls := .type "list",data := .seq its.toArray },toks := t' } :=
  I.laid (fun _ _ q => Heap.get?_push_of_some _ q) (Nat.le_refl _) ⟨hz,its,0,hv,Heap.get?_push_size _ rfl⟩
theorem Inv.fresh (I : Inv X pins σ H s) : H s.heap.objs.size = none := I.hok.fresh (Nat.le_refl _)
theorem Inv.lstM (I : Inv X pins σ H s) (hH : H l = some (.lst xs)) : xs.length ≤ sizeLine ∧ ∃ (its : List Value) (n : Nat),Vals xs its ∧ xs.length = its.length ∧ s.heap.get? l = some { cls := .type "list",data := .seq its.toArray n } := by
  obtain ⟨z,its,n,r,e⟩ := I.hok l _ hH
  exact ⟨z,its,n,r,r.length,e⟩
theorem notLongL {n : Nat} (h : n ≤ sizeLine) : Builtin.List.listTooLong n = false := by
  unfold Builtin.List.listTooLong
  exact decide_eq_false (by omega)
end
section
variable {X : Cx}
def rAppend : V → List V → Hp → VK → Prop := fun x vs H Q => ∃ l xs y,x = .ref l ∧ vs = [y] ∧ H l = some (.lst xs) ∧ xs.length < sizeLine ∧ Q .non (upd H l (.lst (xs ++ [y])))
theorem mt_append : MtM X "list.append" rAppend := by
  intro pins s σ H x vs v us Q I rx rv h
  obtain ⟨l,xs,y,rfl,rfl,hH,hz,q⟩ := h
  cases rx
  obtain ⟨u,rfl,ru⟩ := rv.one
  obtain ⟨z,its,n,r,hl,e⟩ := I.lstM hH
  refine call_meets F.slot_list_append ⟨_,e,rfl⟩ F.entry_list_append (F.args_list_append_2 _ _) (PySem.list_append l its.toArray n u (by rw [List.size_toArray]; omega)) ⟨e,?_⟩
  refine ⟨.non,_,I.lset (its' := its ++ [u]) hH e (by simp) (r.append (.cons ru .nil)) ?_,rfl,q⟩
  rw [List.length_append,List.length_singleton]
  omega
def rPop : V → List V → Hp → VK → Prop := fun x vs H Q => ∃ l xs y,x = .ref l ∧ vs = [] ∧ H l = some (.lst xs) ∧ xs[xs.length - 1]? = some y ∧ Q y (upd H l (.lst xs.dropLast))
theorem mt_pop : MtM X "list.pop" rPop := by
  intro pins s σ H x vs v us Q I rx rv h
  obtain ⟨l,xs,y,rfl,rfl,hH,hy,q⟩ := h
  cases rx
  have hus := rv.zero
  subst hus
  obtain ⟨z,its,n,r,hl,e⟩ := I.lstM hH
  obtain ⟨u,hu,ru⟩ := r.get hy
  have hy' : its.toArray[its.toArray.size - 1]? = some u := by
    show its.toArray[its.length - 1]? = some u
    rw [← Array.getElem?_toList,← hl]
    exact hu
  refine call_meets F.slot_list_pop ⟨_,e,rfl⟩ F.entry_list_pop (F.args_list_pop_1 _) (MeetsSeq.list_pop_last l its.toArray n u hy' (by rw [List.size_toArray]; omega)) ⟨e,?_⟩
  refine ⟨y,_,I.lset (its' := its.dropLast) hH e ?_ r.dropLast ?_,ru,q⟩
  · show its.toArray.eraseIdxIfInBounds (its.toArray.size - 1) = its.dropLast.toArray
    rw [List.size_toArray,List.eraseIdxIfInBounds_toArray,erase_last]
  · rw [List.length_dropLast]
    omega
def rReverse : V → List V → Hp → VK → Prop := fun x vs H Q => ∃ l xs,x = .ref l ∧ vs = [] ∧ H l = some (.lst xs) ∧ Q .non (upd H l (.lst xs.reverse))
theorem mt_reverse : MtM X "list.reverse" rReverse := by
  intro pins s σ H x vs v us Q I rx rv h
  obtain ⟨l,xs,rfl,rfl,hH,q⟩ := h
  cases rx
  have hus := rv.zero
  subst hus
  obtain ⟨z,its,n,r,hl,e⟩ := I.lstM hH
  refine call_meets F.slot_list_reverse ⟨_,e,rfl⟩ F.entry_list_reverse (F.args_list_reverse_1 _) (AutoSeq1.list_reverse_list_0 l its.toArray n (by rw [List.size_toArray]; omega)) ⟨e,?_⟩
  refine ⟨.non,_,I.lset (its' := its.reverse) hH e (by simp) r.reverse ?_,rfl,q⟩
  rw [List.length_reverse]
  omega
def rCat : R2 := fun x y H Q => ∃ l b xs zs,x = .ref l ∧ y = .ref b ∧ H l = some (.lst xs) ∧ H b = some (.lst zs) ∧ xs.length + zs.length ≤ sizeLine ∧ ∀ p,H p = none → Q (.ref p) (upd H p (.lst (xs ++ zs)))
theorem op_cat : OpR X (binaryOp .Add) rCat := by
  intro pins s σ H x y v u Q I rx ry h
  obtain ⟨l,b,xs,zs,rfl,rfl,hH,hB,hz,q⟩ := h
  cases rx
  cases ry
  obtain ⟨z,its,n,r,hl,e⟩ := I.lstM hH
  obtain ⟨z2,its2,n2,r2,hl2,e2⟩ := I.lstM hB
  refine PySem.P.add_list e e2 ?_ (by rw [List.size_toArray,List.size_toArray]; omega)
  have ea : its.toArray ++ its2.toArray = (its ++ its2).toArray := by simp
  rw [ea]
  exact ⟨.ref _,_,I.lnew (t' := s.toks) (r.append r2) (by rw [List.length_append]; omega),rfl,q _ I.fresh⟩
def rRep : R2 := fun x y H Q => ∃ l k xs,x = .ref l ∧ y = .int k ∧ H l = some (.lst xs) ∧ -(2 ^ 63) ≤ k ∧ k < 2 ^ 63 ∧ xs.length * k.toNat ≤ sizeLine ∧
  ∀ p,H p = none → Q (.ref p) (upd H p (.lst (List.replicate k.toNat xs).flatten))
theorem len_rep {α : Type} (xs : List α) (k : Nat) : (List.replicate k xs).flatten.length = k * xs.length := by
  induction k with
  | zero => simp
  | succ k ih => rw [List.replicate_succ,List.flatten_cons,List.length_append,ih,Nat.succ_mul,Nat.add_comm]
theorem op_rep : OpR X (binaryOp .Mult) rRep := by
  intro pins s σ H x y v u Q I rx ry h
  obtain ⟨l,k,xs,rfl,rfl,hH,h1,h2,hz,q⟩ := h
  cases rx
  obtain ⟨t,rfl⟩ := ry
  obtain ⟨z,its,n,r,hl,e⟩ := I.lstM hH
  have hlen : its.toArray.size * k.toNat ≤ sizeLine := by rw [List.size_toArray,← hl]; exact hz
  have hcap : ¬ its.toArray.size * k.toNat > (2 ^ 63 - 1) / 8 := by
    have : (sizeLine : Nat) ≤ (2 ^ 63 - 1) / 8 := by decide
    omega
  have hfit : ¬ (!Builtin.List.listFitsIndex k) = true := by
    rw [fitsIndex_both h1 h2]
    exact Bool.false_ne_true
  have hlong : ¬ Builtin.List.listTooLong (its.toArray.size * k.toNat) = true := by
    rw [notLongL hlen]
    exact Bool.false_ne_true
  have hnew : List.foldl (fun x1 x2 => x1 ++ x2) #[] (List.replicate (if its.toArray.isEmpty = true then 0 else k.toNat) its.toArray) = (List.replicate k.toNat its).flatten.toArray := by
    have f0 : ∀ m : Nat,List.foldl (fun x1 x2 => x1 ++ x2) #[] (List.replicate m its.toArray) = (List.replicate m its).flatten.toArray := fun m => by
      have := foldl_rep its m []
      rw [List.nil_append] at this
      exact this
    rw [f0]
    cases its with
    | nil => simp
    | cons a r' => rw [if_neg (by simp)]
  refine wpAny_binaryOp_repeat_ref (T := "list") (U := "int") (by decide) ⟨_,e,rfl⟩ (fun s' => typeIs_int s' k t) noFill_list_mul F.fills_int_mul F.slot_int_rmul repeat_list F.slot_int_index.lookup
    (call_meets F.slot_int_rmul (typeIs_int s k t) F.entry_int_rmul (F.args_int_rmul_2 _ _) (int___rmul___int_list k t l its.toArray n)
      ⟨e,rfl,⟨_,e,rfl⟩,call_meets F.slot_list_mul ⟨_,e,rfl⟩ F.entry_list_mul (F.args_list_mul_2 _ _) (AutoListH.list___mul___list_int_3 l its.toArray n k t hfit hcap hlong) ⟨e,?_⟩⟩)
  rw [hnew]
  exact ⟨.ref _,_,I.lnew (t' := s.toks) (r.rep k.toNat) (by rw [len_rep,Nat.mul_comm]; exact hz),rfl,q _ I.fresh⟩
end
section
variable {prog : Program} {w : World} {A : Around} {E : Value → Shared → Prop} {s : Shared}
set_option maxRecDepth 100000 in
end
section
variable {X : Cx}
end
end L2
namespace Att
open PySem PySem.W PySem.Calls PyProof.Rows
theorem ints_of_wellAll {P : Params} {h : Heap} : ∀ (ns : List Int) (vs : List Value),WellAll P h vs (ns.map WData.int) → IntsAre vs ns := by
  intro ns
  induction ns with
  | nil =>
    intro vs w
    rw [List.map_nil] at w
    cases w
    exact .nil
  | cons n ns ih =>
    intro vs w
    rw [List.map_cons] at w
    cases w with
    | cons a b =>
      cases a
      exact .cons _ _ (ih _ b)
theorem script_of {l : OpenLaw} {n : Nat} (hn : l.most = some n) {P : Params} {h : Heap} {args : List WData} {vals : List Value}
    (hpre : l.row.toRowW.claim.pre args = true) (hwl : WellAll P h vals args) :
    ∃ a vs ns,vals = [Value.ref a] ∧ args = [WData.list (ns.map WData.int)] ∧ h.get? a = some { cls := .type "list",data := .seq vs.toArray } ∧ IntsAre vs ns ∧ ns.length ≤ n := by
  have hsh : WShape.hasAll [] args [.list .int] = true := (pre_splitW hpre).1
  have hc : l.pre.holds [] { args := args } = true := (pre_splitW hpre).2
  obtain ⟨d,r,rfl,h1,h2⟩ := hasAllW_cons hsh
  obtain rfl := hasAllW_nil h2
  obtain ⟨xs,rfl,h3⟩ := hasW_list h1
  obtain ⟨ns,rfl⟩ := items_int h3
  have hlen : ns.length ≤ n := by
    unfold OpenLaw.pre at hc
    have h4 : (WTm.not (.lt (.lit (.int (n : Int))) (.len (.arg 0)))).holds [] { args := [.list (ns.map .int)] } = true := by
      have h4 := (holds_andW hc).1
      rw [hn] at h4
      exact h4
    have h5 := condW_of h4 (w_not (w_lt w_lit (w_len_list (w_arg rfl))))
    rw [List.length_map] at h5
    refine Nat.le_of_not_lt fun q => ?_
    have q' : (n : Int) < ((ns.length : Nat) : Int) := by omega
    first
      | (rw [decide_eq_true q'] at h5; exact absurd h5 (by decide))
      | (simp at h5; omega)
  cases hwl with
  | cons w1 w2 =>
    cases w2
    cases w1 with
    | list ho hall => exact ⟨_,_,ns,rfl,rfl,ho,ints_of_wellAll ns _ hall,hlen⟩
theorem post_true (l : OpenLaw) (args : List WData) : l.row.toRowW.claim.post args (.bool true) args = true :=
  postW_of (r := l.row.toRowW) (X := (true == true))
    (show WShape.has [] (.bool true) .bool = true by first | rfl | decide | simp [WShape.has,WShape.arms,WShape.armsAll])
    (show (WTm.eq .res (.lit (.bool true))).value [] { args := args,res := some (.bool true),after := args } = some (.bool (true == true)) from w_eq_bool (w_res rfl) w_lit) rfl
theorem attach_call {l : OpenLaw} {n : Nat} {q : Program} {loose : List Str} {XP : (Str → Option Value) → Heap → Prop} {YP : World → Heap → Prop} {d : DefRec}
    (hn : l.most = some n) (hdf : d.params.defaults = [])
    (call : ∀ (w : World) (s₀ s₁ : Shared) (mg mb : Str → Option Value) (fa : Addr) (o : Obj) (pm cd doc : Value) (a : Addr) (vs : List Value) (ns : List Int),
      Ground q loose [] XP w s₀ mg mb s₁.heap → YP w s₁.heap →
      s₁.heap.get? fa = some o → o.data = .func (docDef d.name d.params d.body d.scope pm cd doc) → s₁.heap.CodeRec cd d.name → mg d.name = some (.ref fa) →
      s₁.heap.get? a = some { cls := .type "list",data := .seq vs.toArray } → IntsAre vs ns → ns.length ≤ n → s₁.gens = #[] →
      codeAny (model l.prog w) callerA (.call (.ref fa) ⟨[.ref a],[]⟩) (fun r s' => r = .ok (.ret (.bool true)) ∧ OldK s₁.heap s'.heap ∧ s'.os = s₁.os ∧ AllBare s'.gens) s₁) :
    WalkO q loose XP YP l.row.toRowW d [] (fun f vs => PySem.call f vs) := by
  intro w s₀ s₁ mg mb G Y fa o pm cd doc dV kV ho hd hcd hD hmg hg args vals as hpre hlay hrd hwl hlo
  obtain rfl : dV = .none := Dflts.none hD hdf
  obtain rfl : kV = .none := Dflts.noKw hD
  obtain ⟨a,vs,ns,rfl,rfl,hobj,hints,hlen⟩ := script_of hn hpre hwl
  refine enter_call (codeAny_mono (call w s₀ s₁ mg mb fa o pm cd doc a vs ns G Y ho (fd_plain hd) hcd hmg hobj hints hlen hg) fun r s' hq => ?_)
  obtain ⟨rfl,h2,h3,h4⟩ := hq
  exact ⟨.inl ⟨.bool true,.bool true,[],rfl,fun _ => rfl,.bool true,post_true l _,fun _ => ⟨List.Pairwise.nil,fun _ hm => (nomatch hm)⟩⟩,h2,h3,h4⟩
section
variable {prog : Program} {w : World} {A : Around} {E : Value → Shared → Prop} {s : Shared} {K : Frag}
end
end Att
namespace L2
open PySem PySem.Spec PyProof.Rows
theorem vals_ints : ∀ {vs : List Value} {ns : List Int},IntsAre vs ns → Vals (ns.map V.int) vs
  | _,_,.nil => .nil
  | _,_,.cons n t h => .cons ⟨t,rfl⟩ (vals_ints h)
def Only (H : Hp) : Prop := ∀ b,H b = none ∨ ∃ o xs,H b = some (.frz o (.lst xs))
theorem law_call {P : Program} {w : World} {K : PySem.W.Frag} {mg mb : Str → Option Value} {CX : CXT} {k : Nat} {fa a : Addr} {fd : FuncData} {x : Str} {sp : Sp} {s₁ : Shared} {vs : List Value} {ns : List Int}
    (KX : K.In s₁.heap) (hns : s₁.heap.Ns mainGlobals mg) (hb : s₁.heap.Ns builtinsNs mb) (hbb : ∀ x : Str,x ≠ "__name__" → mb x = bootBuiltins x) (hlim : s₁.heap.NoLimit) (hg : s₁.gens = #[])
    (ha : s₁.heap.get? a = some { cls := .type "list",data := .seq vs.toArray }) (hi : IntsAre vs ns) (hl : ns.length ≤ sizeLine) (hr : Room k callerA)
    (F : ∀ base : Heap,K.In base → base.Ns mainGlobals mg → FnOk P w K mg base CX k fa fd [x] sp) (hbind : ∀ (s : Shared) (u : Value),BindsTo s fd ⟨[u],[]⟩ [(x,u)])
    (hsp : ∀ H : Hp,Only H → SqL K H a (ns.map V.int) → sp [.ref a] H (fun v _ => v = .bl true) fun _ _ _ => False)
    (hCX : ∀ H e s',CX [] H s₁ (fun _ _ _ => False) e s' → False) :
    codeAny (model P w) callerA (.call (.ref fa) ⟨[.ref a],[]⟩) (fun r s' => r = .ok (.ret (.bool true)) ∧ OldK s₁.heap s'.heap ∧ s'.os = s₁.os ∧ AllBare s'.gens) s₁ := by
  have rv := vals_ints hi
  have lenV := hi.length
  have core : ∀ H : Hp,Only H → SqL K H a (ns.map V.int) → HOk P w H s₁.heap → (∀ b,H b ≠ none → b = a) → (H a ≠ none → K.lookup a = none) →
      codeAny (model P w) callerA (.call (.ref fa) ⟨[.ref a],[]⟩) (fun r s' => r = .ok (.ret (.bool true)) ∧ OldK s₁.heap s'.heap ∧ s'.os = s₁.os ∧ AllBare s'.gens) s₁ := by
    intro H hO hS hok hA hK
    have base_of : ∀ {b : Addr} {o : Obj},s₁.heap.get? b = some o → H b = none → (hidT s₁.heap H).get? b = some o := fun e n => hidT_get e n
    have noA : ∀ {b : Addr} {o : Obj} {es : Array DictEntry} {ep : Nat},s₁.heap.get? b = some o → o.data = .dict es ep → H b = none := fun {b o es ep} e d => by
      cases q : H b with
      | none => rfl
      | some u =>
        have e' : b = a := hA b (by rw [q]; simp)
        subst e'
        rw [ha] at e; cases e
        have d' : Data.seq vs.toArray _ = Data.dict es ep := d
        cases d'
    have nsK : ∀ {b : Addr} {m : Str → Option Value},s₁.heap.Ns b m → (hidT s₁.heap H).Ns b m := fun {b m} ⟨o,es,ep,e,d,r⟩ => ⟨o,es,ep,base_of e (noA e d),d,r⟩
    have hKb : K.In (hidT s₁.heap H) := fun b o e => base_of (KX b o e) (by
      cases q : H b with
      | none => rfl
      | some u =>
        have e' : b = a := hA b (by rw [q]; simp)
        subst e'
        rw [hK (by rw [q]; simp)] at e; cases e)
    have hM : Mod K mg (hidT s₁.heap H) := ⟨hKb,nsK hns,⟨mb,nsK hb,hbb⟩,let ⟨mc,h1,h2⟩ := hlim; ⟨mc,nsK h1,h2⟩⟩
    have e0 : Env0 P w K mg (hidT s₁.heap H) callerA [] s₁ H := ⟨rfl,hM,fun b o e => of_hidT e,Nat.le_of_eq (hidT_size _ _),trivial,fun b hb => absurd (show b ∈ ([] : List Addr) from hb) (by simp),hok,.of_eq hg⟩
    refine codeAny_mono ((F _ hKb (nsK hns)).run callerA [] s₁ H ⟨[.ref a],[]⟩ [.ref a] [.ref a] _ _ hr e0 (hbind s₁ (.ref a)) (.cons rfl .nil) (hsp H hO hS)) fun r s' h => ?_
    cases r with
    | error e => exact (hCX H e s' h).elim
    | ok fl =>
      cases fl with
      | next => exact False.elim h
      | brk => exact False.elim h
      | cont => exact False.elim h
      | ret u =>
        obtain ⟨v,H',os,bare,un,hok',r',q⟩ := h
        have q' : v = .bl true := q
        subst q'
        obtain rfl : u = Value.bool true := r'
        refine ⟨rfl,OldK.of_keep fun b o e => ?_,os,bare⟩
        cases q : H b with
        | none => exact un.keep b o e q (by intro z; exact absurd (show b ∈ ([] : List Addr) from z) (by simp)) (by simp)
        | some u =>
          rcases hO b with z | ⟨ob,xs,z⟩
          · rw [q] at z; cases z
          · have z2 := un.frzs b ob _ z
            obtain ⟨e1,_⟩ := hok b _ z
            obtain ⟨e2,_⟩ := hok' b _ z2
            rw [e] at e1; cases e1
            exact e2
  cases hk : K.lookup a with
  | some o =>
    have e := KX a o hk
    rw [ha] at e
    cases e
    refine core (fun _ => none) (fun _ => .inl rfl) (.inr ⟨_,vs.toArray,_,hk,rfl,rfl,rfl,by rw [List.size_toArray,lenV]; exact hl,by simpa using rv⟩) (fun b u z => by have z' : (none : Option HO) = some u := z; cases z') (fun b z => absurd rfl z) fun z => absurd rfl z
  | none =>
    refine core (fun b => if b = a then some (.frz { cls := .type "list",data := .seq vs.toArray } (.lst (ns.map V.int))) else none) (fun b => ?_) (.inl (.inr ⟨{ cls := .type "list",data := .seq vs.toArray },if_pos rfl⟩)) (fun b u z => ?_) (fun b z => ?_) fun _ => hk
    · by_cases hb : b = a
      · exact .inr ⟨_,_,if_pos hb⟩
      · exact .inl (if_neg hb)
    · by_cases hb : b = a
      · have z' := (if_pos hb).symm.trans z
        cases z'
        subst hb
        exact ⟨ha,by rw [List.length_map]; exact hl,vs,_,rv,ha⟩
      · have z' := (if_neg hb).symm.trans z
        cases z'
    · by_cases hb : b = a
      · exact hb
      · exact absurd (if_neg hb) z
end L2
namespace L2
open PySem PySem.Spec PyProof.Rows
theorem walk_of {l : PySem.W.OpenLaw} {n k : Nat} {q : Program} {loose : List Str} {XP : (Str → Option Value) → Heap → Prop} {YP : World → Heap → Prop} {d : DefRec} {K : Params → PySem.W.Frag} {CX : World → CXT} {sp : World → Sp} {x : Str}
    (hn : l.most = some n) (hn2 : n ≤ sizeLine) (hdf : d.params.defaults = []) (hr : Room k callerA)
    (hY : ∀ (w : World) (h : Heap),YP w h → (K w.params).In h)
    (F : ∀ (w : World) (mg : Str → Option Value) (fa : Addr) (h : Heap),(K w.params).In h → h.Ns mainGlobals mg → mg d.name = some (.ref fa) →
      ∃ fd : FuncData,(∀ (s : Shared) (u : Value),BindsTo s fd ⟨[u],[]⟩ [(x,u)]) ∧
        ∀ base : Heap,(K w.params).In base → base.Ns mainGlobals mg → FnOk l.prog w (K w.params) mg base (CX w) k fa fd [x] (sp w))
    (hsp : ∀ (w : World) (H : Hp) (a : Addr) (ns : List Int),ns.length ≤ n → Only H → SqL (K w.params) H a (ns.map V.int) → sp w [.ref a] H (fun v _ => v = .bl true) fun _ _ _ => False)
    (hCX : ∀ (w : World) (H : Hp) (s : Shared) (e : Value) (s' : Shared),CX w [] H s (fun _ _ _ => False) e s' → False) :
    PySem.W.WalkO q loose XP YP l.row.toRowW d [] (fun f vs => PySem.call f vs) := by
  refine Att.attach_call hn hdf fun w s₀ s₁ mg mb fa o pm cd doc a vs ns G Y ho hd hcd hmg hobj hints hlen hg => ?_
  have KX := hY w _ Y
  obtain ⟨fd,hb,hF⟩ := F w mg fa _ KX G.T.g hmg
  exact law_call KX G.T.g G.T.b G.T.builtins G.T.nolimit hg hobj hints (Nat.le_trans hlen hn2) hr hF hb (fun H hO hS => hsp w H a ns hlen hO hS) fun H e s' => hCX w H s₁ e s'
end L2
namespace L2
open PySem PySem.Spec PyProof.Rows
def defArgs (s : Stmt) : Arguments := match s with
  | .FunctionDef _ a _ _ _ _ _ _ _ _ => a
  | _ => { posonlyargs := [],args := [],vararg := none,kwonlyargs := [],kw_defaults := [],kwarg := none,defaults := [] }
def defBody (s : Stmt) : List Stmt := match s with
  | .FunctionDef _ _ b _ _ _ _ _ _ _ => b
  | _ => []
def defScope (s : Stmt) : Scope := match s with
  | .FunctionDef _ _ _ _ _ _ sc _ _ _ => sc
  | _ => { kind := .function,names := [],isGenerator := false,isCoroutine := false }
abbrev CX0 : CXT := fun _ _ _ _ _ _ => False
abbrev E0 : XK := fun _ _ _ => False
theorem pass0 {X : Cx} : Passes CX0 X E0 := fun _ _ _ _ _ _ _ h => h.elim
section
variable {P : Program} {w : World} {K : PySem.W.Frag} {mg : Str → Option Value} {base : Heap}
end
theorem small1000 {n : Nat} (h : n ≤ 1000) : n < sizeLine := Nat.lt_of_le_of_lt h (by decide)
section
variable {X : Cx}
theorem pv (i : Nat) {x : Str} {pos : Pos} (hN : X.N[i]? = some x := by rfl) (hv : Vis X.env.scope x := by first | exact Or.inl rfl | exact Or.inr (Or.inl rfl) | exact Or.inr (Or.inr rfl)) (hd : (x == ("__debug__" : Str)) = false := by decide)
    (hcd : (x == ("__classdict__" : Str)) = false := by decide) : PE X (.Name x pos) (tVar i) := pe_var hN hv hd hcd
end
theorem iteF {A B : Prop} (h : B) : if false = true then A else B := by
  rw [if_neg Bool.false_ne_true]
  exact h
theorem iteT {A B : Prop} (h : A) : if true = true then A else B := by
  rw [if_pos rfl]
  exact h
def Same (H H' : Hp) : Prop := ∀ b o,H b = some o → H' b = some o
theorem Same.refl (H : Hp) : Same H H := fun _ _ h => h
theorem Same.trans {H H1 H2 : Hp} (a : Same H H1) (b : Same H1 H2) : Same H H2 := fun c o h => b c o (a c o h)
theorem Same.free {H H' : Hp} (e : Same H H') {l : Addr} (h : H' l = Option.none) : H l = Option.none := by
  cases q : H l with
  | none => rfl
  | some o =>
    rw [e l o q] at h
    cases h
theorem Same.seq {K : PySem.W.Frag} {H H' : Hp} {a : Addr} {xs : List V} (e : Same H H') (h : SqL K H a xs) : SqL K H' a xs := by
  rcases h with (h | ⟨o,h⟩) | h
  · exact .inl (.inl (e _ _ h))
  · exact .inl (.inr ⟨o,e _ _ h⟩)
  · exact .inr h
end L2
end
section
set_option Elab.async false
set_option linter.all false
set_option maxRecDepth 100000
set_option maxHeartbeats 4000000
namespace Mth
end Mth
namespace L2
open PySem PySem.Spec PyProof.Rows
abbrev bits (i : Int) : Nat := Builtin.Int.intBits i
theorem bits_of {i : Int} {n : Nat} (h : i.natAbs < 2 ^ n) : bits i ≤ n := intBits_le h
theorem bits_lt {i : Int} {n : Nat} (h : bits i ≤ n) : i.natAbs < 2 ^ n := by
  unfold bits Builtin.Int.intBits at h
  by_cases h0 : i = 0
  · subst h0
    exact Nat.pos_of_ne_zero (by simp)
  · rw [if_neg (by simpa using h0)] at h
    have h1 : i.natAbs ≠ 0 := by omega
    exact (Nat.log2_lt h1).mp (by omega)
theorem bits_le {i : Int} {m n : Nat} (h : bits i ≤ m) (hm : m ≤ n) : bits i ≤ n := Nat.le_trans h hm
section
variable {X : Cx} {pos : Pos}
def CM (i j : Int) : Prop := IntMulOk i j
theorem CM.b {i j : Int} {m n : Nat} (hi : bits i ≤ m) (hj : bits j ≤ n) (hm : m ≤ 2 ^ 20) (hn : n ≤ 2 ^ 20) : CM i j := IntMulOk.of_bits (Nat.le_trans hi hm) (Nat.le_trans hj hn)
theorem CM.l {i j : Int} (h : -(2 ^ 64) < i ∧ i < 2 ^ 64) : CM i j := CMul.ok (.inl h)
theorem CM.r {i j : Int} (h : -(2 ^ 64) < j ∧ j < 2 ^ 64) : CM i j := CMul.ok (.inr h)
theorem op_mulX : OpR X (binaryOp .Mult) (rI CM fun i j => .int (i * j)) := opI fun _ _ _ _ _ _ _ hc q => mul_int q hc
def CD (_ j : Int) : Prop := 0 < j ∧ bits j ≤ 8000
theorem log2_of_bits {j : Int} {n : Nat} (hj : j ≠ 0) (h : bits j ≤ n) (hn : n ≤ 9000) : j.natAbs.log2 < 9000 := by
  have h1 : j.natAbs ≠ 0 := by omega
  have h2 := (Nat.log2_lt h1).mpr (bits_lt h)
  omega
theorem op_fdivP : OpR X (binaryOp .FloorDiv) (rI CD fun i j => .int (i / j)) := opI fun i j _ _ _ _ _ hc q => by
  have h1 : (0 : Int) < j := hc.1
  exact floordiv_int (by omega) (by rw [Int.fdiv_eq_ediv_of_nonneg i (by omega)]; exact q) (.inl (PyProof.noPylong_of_log2 (log2_of_bits (by omega) hc.2 (by decide))))
theorem mt_bitlen : MtR X "int.bit_length" (fun x xs H Q => ∃ i,x = .int i ∧ xs = [] ∧ Q (.int ((bits i : Nat) : Int)) H) := by
  intro pins s σ H x xs v us Q I rx rs h
  obtain ⟨i,rfl,rfl,q⟩ := h
  obtain ⟨t,rfl⟩ := rx
  cases rs
  exact call_int_bit_length ⟨.int _,H,I.tok _,⟨_,rfl⟩,q⟩
end
theorem bt_int : bootBuiltins "int" = some (.type "int") := by decide +kernel
theorem bt_bool : bootBuiltins "bool" = some (.type "bool") := by decide +kernel
theorem bt_str : bootBuiltins "str" = some (.type "str") := by decide +kernel
theorem bt_tuple : bootBuiltins "tuple" = some (.type "tuple") := by decide +kernel
theorem bt_list : bootBuiltins "list" = some (.type "list") := by decide +kernel
theorem bt_isinstance : bootBuiltins "isinstance" = some (.builtin "isinstance") := by decide +kernel
theorem bt_len : bootBuiltins "len" = some (.builtin "len") := by decide +kernel
theorem pe_ty {X : Cx} {x : Str} {T : String} {pos : Pos} (hm : X.mg x = none) (hv : bootBuiltins x = some (.type T)) (hg : Gl X x := by rfl) (hn : x ≠ "__name__" := by decide) (hd : (x == ("__debug__" : Str)) = false := by decide) :
    PE X (.Name x pos) (tC (.ty T)) := pe_bltn hg hm hv rfl hn hd
inductive Kn (H : Hp) : V → String → Prop where
  | non : Kn H .non "NoneType"
  | bl (b : Bool) : Kn H (.bl b) "bool"
  | int (i : Int) : Kn H (.int i) "int"
  | str (x : Str) : Kn H (.str x) "str"
  | lst {a : Addr} {xs : List V} (e : H a = some (.lst xs)) : Kn H (.ref a) "list"
  | tup {a : Addr} {xs : List V} (e : H a = some (.tup xs)) : Kn H (.ref a) "tuple"
  | dict {a : Addr} {kvs : List (Key × V)} (e : H a = some (.dK kvs)) : Kn H (.ref a) "dict"
theorem Kn.ty {K : PySem.W.Frag} {H : Hp} {x : V} {t : String} (k : Kn H x t) : TyOf K H x (.type t) := by
  cases k with
  | non => exact .non
  | bl b => exact .bl b
  | int i => exact .int i
  | str x => exact .str x
  | lst e => exact .lst e
  | tup e => exact .tup e
  | dict e => exact .dK e
theorem Kn.mono {H H' : Hp} {x : V} {t : String} (k : Kn H x t) (s : Same H H') : Kn H' x t := by
  cases k with
  | non => exact .non
  | bl b => exact .bl b
  | int i => exact .int i
  | str x => exact .str x
  | lst e => exact .lst (s _ _ e)
  | tup e => exact .tup (s _ _ e)
  | dict e => exact .dict (s _ _ e)
def isSub (t T : String) : Bool := t == T || (t == "bool" && T == "int")
def Nice (T : String) : Prop := T = "int" ∨ T = "bool" ∨ T = "tuple" ∨ T = "list" ∨ T = "str"
theorem kit_of (K : PySem.W.Frag) {H : Hp} {x : V} {t T : String} (k : Kn H x t) (n : Nice T) : PySem.W.kitOne K (.type t) (.type T) = some (isSub t T) := by
  rcases n with rfl | rfl | rfl | rfl | rfl <;> cases k <;> kernel_rfl
inductive rIsI (xs : List V) (H : Hp) (Q : VK) : Prop
  | mk (x : V) (t T : String) (e : xs = [x,.ty T]) (k : Kn H x t) (n : Nice T) (q : Q (.bl (isSub t T)) H) : rIsI xs H Q
theorem call_isinst {X : Cx} : CallR X (.builtin "isinstance") rIsI := by
  intro pins s σ H xs us Q I rs h
  obtain ⟨x,t,T,rfl,k,n,q⟩ := h
  obtain ⟨u,v,rfl,ru,rv⟩ := vals2 rs
  cases (show v = Value.type T from rv)
  exact isinst_ok I ru k.ty (kit_of X.K k n) fun tk => ⟨.bl _,H,I.tok _,rfl,q⟩
structure Fn (P : Program) (w : World) (K : PySem.W.Frag) (mg : Str → Option Value) (base : Heap) (x : Str) (ps : List Str) (k : Nat) (sp : Sp) : Prop where
  ex : ∃ (f : Addr) (fd : FuncData) (o : Obj),mg x = some (.ref f) ∧ PySem.W.keepIn K (.ref f) = true ∧ (∀ us : List Value,us.length = ps.length → bindArgs fd ⟨us,[]⟩ = pure (ps.zip us)) ∧ (K.lookup f = some o ∧ o.data = .func fd) ∧ FnOk P w K mg base CX0 k f fd ps sp
theorem pe_fn {X : Cx} {x : Str} {ps : List Str} {k : Nat} {sp : Sp} {p pos : Pos} {e : Expr} {es : List Expr} {t : TA} (F : Fn X.prog X.w X.K X.mg X.base x ps k sp) (hr : Room k X.A) (hg : Gl X x) (ha : PA X (e :: es) t)
    (hdb : (x == ("__debug__" : Str)) = false := by decide) (he : starEach (e :: es) X.env = (false,eval e X.env) :: starEach es X.env := by rfl) (hpl : (backTo pos (starEach es X.env)).any (·.1) = false := by rfl) :
    PE X (.Call (.Name x p) (e :: es) [] pos) (tCall sp [] E0 t) := by
  obtain ⟨f,fd,o,hm,hk,hb,_,G⟩ := F.ex
  exact pe_call G hr hg hm hk (.all hb) .nil pass0 ha hdb he hpl
structure Df (K : PySem.W.Frag) (mg : Str → Option Value) (x : Str) (st : Stmt) : Prop where
  ex : ∃ (f : Addr) (oc : Value) (od : Option Addr) (kV doc pm : Value) (an : Option Addr) (cdv ct : Value) (osl : Array (Option Value)),
    mg x = some (.ref f) ∧ K.lookup f = some ⟨oc,od,.func (PySem.W.fnOf x x (defArgs st) (defBody st) (defScope st) .none kV doc pm an cdv ct),osl⟩ ∧ PySem.W.codeIn K cdv x = true ∧ PySem.W.keepIn K (.ref f) = true
theorem df_mk {K : PySem.W.Frag} {mg : Str → Option Value} {h : Heap} {x : Str} {st : Stmt} {f : Addr} {oc : Value} {od an : Option Addr} {osl : Array (Option Value)} {kV doc pm cdv ct : Value} (X : K.In h) (G : h.Ns mainGlobals mg)
    (a : PySem.W.nsIn K mainGlobals x = some (some (.ref f))) (l : K.lookup f = some ⟨oc,od,.func (PySem.W.fnOf x x (defArgs st) (defBody st) (defScope st) .none kV doc pm an cdv ct),osl⟩) (c : PySem.W.codeIn K cdv x = true) (k : PySem.W.keepIn K (.ref f) = true) :
    Df K mg x st := ⟨⟨f,oc,od,kV,doc,pm,an,cdv,ct,osl,PySem.W.mg_of X G a,l,c,k⟩⟩
theorem Df.fn {P : Program} {w : World} {K : PySem.W.Frag} {mg : Str → Option Value} {base : Heap} {x : Str} {st : Stmt} {N ps : List Str} {k : Nat} {sp : Sp} (D : Df K mg x st) (S : FnScope N ps (defScope st))
    (hbind : ∀ (kV doc pm : Value) (an : Option Addr) (cdv ct : Value) (us : List Value),us.length = ps.length → bindArgs (PySem.W.fnOf x x (defArgs st) (defBody st) (defScope st) .none kV doc pm an cdv ct) ⟨us,[]⟩ = pure (ps.zip us))
    (len : ∀ vs H Q E,sp vs H Q E → vs.length = ps.length)
    (hbody : ∀ (f : Addr) (cdv : Value) (A : Around) (outer : List Env) (s : Shared) (H : Hp) (vs : List V) (Q : VK) (E : XK),Room k (A.deeper (envOfC x (defScope st) s.heap.objs.size f cdv)) → sp vs H Q E →
      ∃ t,PSs (cxOf CX0 P w K mg base N x (defScope st) f cdv A outer s H E).nox (defBody st) t ∧ t { nx := fun _ H' => Q .non H',rt := Q } (start N vs) H) : Fn P w K mg base x ps (k + 1) sp := by
  obtain ⟨f,oc,od,kV,doc,pm,an,cdv,ct,osl,hm,lk,hcd,hk⟩ := D.ex
  refine ⟨⟨f,_,_,hm,hk,hbind kV doc pm an cdv ct,⟨lk,rfl⟩,fn_of lk hcd S len fun A outer s H vs Q E hr hsp => ?_⟩⟩
  obtain ⟨t,h,q⟩ := hbody f cdv A outer s H vs Q E hr hsp
  exact ⟨t,h.nox,q⟩
theorem law_fd {P : Program} {w : World} {K : PySem.W.Frag} {mg : Str → Option Value} {fa : Addr} {k : Nat} {sp : Sp} (h : Heap) (hfa : mg "law" = some (.ref fa)) (F : ∀ base : Heap,Fn P w K mg base "law" ["script"] k sp) :
    ∃ fd : FuncData,(∀ (s : Shared) (v : Value),BindsTo s fd ⟨[v],[]⟩ [("script",v)]) ∧ ∀ base : Heap,K.In base → base.Ns mainGlobals mg → FnOk P w K mg base CX0 k fa fd ["script"] sp := by
  obtain ⟨f,fd,o,hm,_,hb,⟨hl,hd⟩,_⟩ := (F h).ex
  rw [hfa] at hm
  cases hm
  refine ⟨fd,fun s v => .of_eq (hb [v] rfl),fun base _ _ => ?_⟩
  obtain ⟨f',fd',o',hm',_,_,⟨hl',hd'⟩,G⟩ := (F base).ex
  rw [hfa] at hm'
  cases hm'
  rw [hl] at hl'
  cases hl'
  rw [hd] at hd'
  cases hd'
  exact G
def spLaw (K : PySem.W.Frag) : Sp := fun vs H Q _ => ∃ (a : Addr) (ns : List Int),vs = [.ref a] ∧ SqL K H a (ns.map V.int) ∧ ns.length ≤ 63 ∧ ∀ H',Q (.bl true) H'
theorem law_walk {l : PySem.W.OpenLaw} {k : Nat} {q : Program} {loose : List Str} {XP : (Str → Option Value) → Heap → Prop} {YP : World → Heap → Prop} {d : DefRec} {K : Params → PySem.W.Frag} (hk : Room k callerA) (hn : l.most = some 63) (hdf : d.params.defaults = [])
    (hY : ∀ (w : World) (h : Heap),YP w h → (K w.params).In h)
    (F : ∀ (w : World) (mg : Str → Option Value) (fa : Addr) (h : Heap),(K w.params).In h → h.Ns mainGlobals mg → mg d.name = some (.ref fa) →
      ∃ fd : FuncData,(∀ (s : Shared) (u : Value),BindsTo s fd ⟨[u],[]⟩ [("script",u)]) ∧ ∀ base : Heap,(K w.params).In base → base.Ns mainGlobals mg → FnOk l.prog w (K w.params) mg base CX0 k fa fd ["script"] (spLaw (K w.params))) :
    PySem.W.WalkO q loose XP YP l.row.toRowW d [] (fun f vs => PySem.call f vs) :=
  L2.walk_of (n := 63) (k := k) (x := "script") (CX := fun _ => CX0) (sp := fun w => spLaw (K w.params)) hn (by decide) hdf hk hY F (fun _ _ a ns hl _ hS => ⟨a,ns,rfl,hS,hl,fun _ => rfl⟩) fun _ _ _ _ _ z => z
theorem Same.new {H : Hp} {p : Addr} {o : HO} (h : H p = none) : Same H (upd H p o) := fun b o' e => by
  rw [upd_ne (ne_of_none e h)]
  exact e
theorem ite3 {c : Bool} {A B : Prop} (h1 : c = true → A) (h2 : c = false → B) : if c = true then A else B := by
  cases c with
  | true => exact iteT (h1 rfl)
  | false => exact iteF (h2 rfl)
theorem iteFalse {b : Bool} {A B : Prop} (hb : b = false) (h : B) : if b = true then A else B := by
  subst hb
  exact iteF h
theorem iteTrue {b : Bool} {A B : Prop} (hb : b = true) (h : A) : if b = true then A else B := by
  subst hb
  exact iteT h
def forBody (s : Stmt) : List Stmt := match s with
  | .For _ _ b _ _ => b
  | _ => []
def isIntV : V → Bool
  | .int _ => true
  | _ => false
theorem mem_cutV {xs : List V} {lo hi : Option Int} {x : V} (h : x ∈ cutV xs lo hi) : x ∈ xs := List.mem_of_mem_drop (List.mem_of_mem_take h)
end L2
namespace Sp1
open PySem PySem.Spec L2 Mth
inductive spWhole (vs : List V) (H : Hp) (Q : VK) (x_3 : XK) : Prop
  | mk : ∀ x t,(vs = [x]) → (Kn H x t) → (Q (.bl (isIntV x)) H) → spWhole vs H Q x_3
structure Thing (H : Hp) (x : V) : Prop where
  kn : ∃ t,Kn H x t
  parts : ∀ p xs,x = .ref p → H p = some (.tup xs) → ∀ y ∈ xs,∃ t,Kn H y t
inductive spMixed (vs : List V) (H : Hp) (Q : VK) (x_3 : XK) : Prop
  | mk : ∀ c k : Int,(vs = [.int c,.int k]) → (∀ n : Int,Q (.int n) H) → spMixed vs H Q x_3
inductive spNumbers (vs : List V) (H : Hp) (Q : VK) (x_3 : XK) : Prop
  | mk : ∀ (c : Int) (m : Nat) (b : Int),(vs = [.int c,.int (m : Int),.int b]) → (m ≤ 100) → ((0 < b ∧ bits b ≤ 2000)) → (∀ (p : Addr) (ns : List Int) (H' : Hp),ns.length = m → (∀ n ∈ ns,0 ≤ n ∧ n < b) → Same H H' → H' p = some (.lst (ns.map V.int)) → Q (.ref p) H') → spNumbers vs H Q x_3
theorem whole_sub {H : Hp} {x : V} {t : String} (k : Kn H x t) : (isSub t "int" = true → (!isSub t "bool") = isIntV x) ∧ (isSub t "int" = false → isIntV x = false) := by
  cases k with
  | non => exact ⟨fun h => absurd h (by decide),fun _ => rfl⟩
  | bl b => exact ⟨fun _ => (show (!isSub "bool" "bool") = false by decide),fun h => absurd h (by decide)⟩
  | int i => exact ⟨fun _ => (show (!isSub "int" "bool") = true by decide),fun h => absurd h (by decide)⟩
  | str x => exact ⟨fun h => absurd h (by decide),fun _ => rfl⟩
  | lst e => exact ⟨fun h => absurd h (by decide),fun _ => rfl⟩
  | tup e => exact ⟨fun h => absurd h (by decide),fun _ => rfl⟩
  | dict e => exact ⟨fun h => absurd h (by decide),fun _ => rfl⟩
theorem Kn.cases_int {H : Hp} {y : V} {t : String} (k : Kn H y t) : (∃ a,y = .int a ∧ t = "int") ∨ ((∀ a,y ≠ .int a) ∧ isIntV y = false) := by
  cases k with
  | int a => exact .inl ⟨a,rfl,rfl⟩
  | non => exact .inr ⟨fun a e => (nomatch e),rfl⟩
  | bl b => exact .inr ⟨fun a e => (nomatch e),rfl⟩
  | str x => exact .inr ⟨fun a e => (nomatch e),rfl⟩
  | lst e => exact .inr ⟨fun a e => (nomatch e),rfl⟩
  | tup e => exact .inr ⟨fun a e => (nomatch e),rfl⟩
  | dict e => exact .inr ⟨fun a e => (nomatch e),rfl⟩
theorem sz {n : Nat} (h : n ≤ 1000) : n ≤ sizeLine := Nat.le_of_lt (small1000 h)
theorem atI_mem {α : Type} {xs : List α} {k : Int} (h0 : 0 ≤ k) (h1 : k < (xs.length : Int)) : ∃ v,atI xs k = some v ∧ v ∈ xs := by
  have hk : k.toNat < xs.length := by omega
  have ek : k = ((k.toNat : Nat) : Int) := by omega
  have q := atI_nat (xs := xs) (j := k.toNat) (List.getElem?_eq_getElem hk)
  rw [← ek] at q
  exact ⟨xs[k.toNat],q,List.getElem_mem hk⟩
theorem th_tup {H : Hp} {p : Addr} {xs : List V} (e : H p = some (.tup xs)) (h : ∀ y ∈ xs,∃ t,Kn H y t) : Thing H (.ref p) := ⟨⟨_,.tup e⟩,fun p' ys e1 e2 => by
  cases e1
  rw [e] at e2
  cases e2
  exact h⟩
theorem lt64 {n : Int} (h0 : 0 ≤ n) (h1 : n < 2147483647) : -(2 ^ 64) < n ∧ n < 2 ^ 64 := by
  have e : (2 : Int) ^ 64 = 18446744073709551616 := by decide
  rw [e]
  omega
end Sp1
namespace L2
open PySem PySem.Spec PyProof.Rows
section
variable {X : Cx}
end
end L2
namespace L2
open PySem PySem.Spec PyProof.Rows
section
variable {prog : Program} {w : World} {A : Around} {E : Value → Shared → Prop}
end
end L2
namespace L2
open PySem PySem.Spec PyProof.Rows
theorem ObjOk.has {P : Program} {w : World} {H : Hp} {h : Heap} {a : Addr} {o : HO} (x : ObjOk P w H h a o) : ∃ ob,h.get? a = some ob := by
  cases o with
  | lst xs => obtain ⟨_,_,_,_,e⟩ := x; exact ⟨_,e⟩
  | tup xs => obtain ⟨_,_,_,ob,e,_⟩ := x; exact ⟨_,e⟩
  | dK kvs => obtain ⟨_,_,_,_,ob,_,_,e,_⟩ := x; exact ⟨_,e⟩
  | dT kvs => obtain ⟨_,_,_,_,ob,_,_,e,_⟩ := x; exact ⟨_,e⟩
  | set S n => obtain ⟨ob,_,_,_,e,_⟩ := x; exact ⟨_,e⟩
  | ins C dx fs => obtain ⟨_,_,_,e,_⟩ := x; exact ⟨_,e⟩
  | own y => obtain ⟨ob,e⟩ := x; exact ⟨_,e⟩
  | xd fs => obtain ⟨_,⟨od,_,_,e,_⟩,_⟩ := x; exact ⟨_,e⟩
  | rng lo hi => obtain ⟨_,_,_,e⟩ := x; exact ⟨_,e⟩
  | frz ob u => obtain ⟨e,_⟩ := x; exact ⟨_,e⟩
  | tbl ps => exact ⟨_,(show h.get? a = some _ from x)⟩
  | met f y => exact ⟨_,(show h.get? a = some _ from x)⟩
  | ext φ => obtain ⟨_,⟨ob,e⟩,_⟩ := x; exact ⟨_,e⟩
structure Big (B : Heap) (fs : List Addr) (H' : Hp) (h : Heap) : Prop where
  tr : ∀ b o,H' b = some o → ∃ ob,B.get? b = some ob
  old : ∀ b o,h.get? b = some o → b ∉ fs → ∃ ob,B.get? b = some ob
section
variable {P : Program} {w : World} {fs fs' : List Addr} {H H1 H' : Hp} {h h1 h2 B : Heap}
theorem Un.fly (un : Un fs [] H H' h h1) (big : Big B fs H' h) (st1 : B.StaysIn h1) (st2 : B.StaysIn h2) (sl : h1.UpToSlots h2)
    (fr : ∀ b ∈ fs,H b = none ∧ ∀ o,h1.get? b = some o → ∀ vs,o.data ≠ .fields vs) : Un fs [] H H' h h2 where
  keep := fun b o e n hb hx => by
    have e1 := un.keep b o e n hb hx
    obtain ⟨ob,eb⟩ := big.old b o e hb
    have e2 := st1 b ob eb
    rw [e1] at e2
    cases e2
    exact st2 b _ eb
  slot := fun b o e n hb hx => by
    obtain ⟨s1,e1⟩ := un.slot b o e n hb hx
    obtain ⟨s2,e2⟩ := sl b _ e1 ((fr b hb).2 _ e1)
    exact ⟨s2,e2⟩
  free := un.free
  there := fun b o e hx => by
    by_cases hb : b ∈ fs
    · obtain ⟨s1,e1⟩ := un.slot b o e (fr b hb).1 hb hx
      obtain ⟨s2,e2⟩ := sl b _ e1 ((fr b hb).2 _ e1)
      exact ⟨_,e2⟩
    · obtain ⟨ob,eb⟩ := big.old b o e hb
      exact ⟨_,st2 b ob eb⟩
  tups := un.tups
  frzs := un.frzs
  tbls := un.tbls
theorem HOk.fly (hok : HOk P w H' h1) (big : Big B fs H' h) (st1 : B.StaysIn h1) (st2 : B.StaysIn h2) : HOk P w H' h2 := fun a o e => by
  refine (hok a o e).stay (fun b u hb q => ?_) (fun _ q => q) fun _ _ q => q
  have hb' : ∃ ob,B.get? b = some ob := by
    rcases hb with z | z
    · rw [z]
      exact big.tr a o e
    · exact big.tr b _ z
  obtain ⟨ob,eb⟩ := hb'
  have e2 := st1 b ob eb
  rw [q] at e2
  cases e2
  exact st2 b _ eb
theorem Un.shed (a : Un fs [] H H1 h h1) (b : Un fs' [] H1 H' h1 h2) (sub : ∀ x ∈ fs,x ∈ fs') (out : ∀ x o,h.get? x = some o → x ∈ fs' → x ∈ fs) : Un fs [] H H' h h2 where
  keep := fun x o e n hx hn => b.keep x o (a.keep x o e n hx hn) (a.free x o e n hn) (fun z => hx (out x o e z)) hn
  slot := fun x o e n hx hn => by
    obtain ⟨s1,e1⟩ := a.slot x o e n hx hn
    obtain ⟨s2,e2⟩ := b.slot x _ e1 (a.free x o e n hn) (sub x hx) hn
    exact ⟨s2,e2⟩
  free := fun x o e n hn => by
    obtain ⟨o1,e1⟩ := a.there x o e hn
    exact b.free x o1 e1 (a.free x o e n hn) hn
  there := fun x o e hn => by
    obtain ⟨o1,e1⟩ := a.there x o e hn
    exact b.there x o1 e1 hn
  tups := fun x xs e => b.tups x xs (a.tups x xs e)
  frzs := fun x o xs e => b.frzs x o xs (a.frzs x o xs e)
  tbls := fun x ps e => by
    obtain ⟨m1,e1⟩ := a.tbls x ps e
    obtain ⟨m2,e2⟩ := b.tbls x _ e1
    exact ⟨m1 ++ m2,by rw [e2,Array.append_assoc]⟩
end
def CXE (P : Program) (w : World) : CXT := fun outer H s E e s' => ∃ (ea t : Addr) (cls : Value) (H' : Hp) (B : Heap),
  e = .ref ea ∧ s'.os = s.os ∧ AllBare s'.gens ∧ Un (frs outer) [] H H' s.heap s'.heap ∧ HOk P w H' s'.heap ∧ Heap.FlyingW B outer ea cls (.ref t) s'.heap ∧ Big B (frs outer) H' s.heap ∧ E cls none H'
section
variable {P : Program} {w : World} {K : PySem.W.Frag} {mg : Str → Option Value} {base : Heap} {N : List Str} {qual : Str} {scope : Scope} {f : Addr} {cdv : Value} {A : Around} {outer : List Env} {s₀ : Shared} {H₀ : Hp} {E : XK}
theorem frs_cons {env : Env} {L : Addr} (hf : env.frame = some L) (l : List Env) : frs (env :: l) = L :: frs l := by
  unfold frs
  rw [List.filterMap_cons,hf]
theorem raised {pins : List (Addr × Obj)} {σ : St} {H : Hp} {s : Shared} {h' : Heap} {e : Addr} {cls : Value} {vs : List Value} (I : Inv (cxOf (CXE P w) P w K mg base N qual scope f cdv A outer s₀ H₀ E) pins σ H s)
    (hx : Heap.MadeExcOf s.heap h' e cls vs) (q : E cls none H) : (cxOf (CXE P w) P w K mg base N qual scope f cdv A outer s₀ H₀ E).xe (.ref e) { s with heap := h' } := by
  have hin : ∀ env ∈ (cxOf (CXE P w) P w K mg base N qual scope f cdv A outer s₀ H₀ E).stack,∀ a,env.frame = some a → a ∈ frs (cxOf (CXE P w) P w K mg base N qual scope f cdv A outer s₀ H₀ E).stack :=
    fun env he a ha => List.mem_filterMap.mpr ⟨env,he,ha⟩
  have neL : ∀ b o,s₀.heap.get? b = some o → b ∉ frs outer → b ∉ frs (cxOf (CXE P w) P w K mg base N qual scope f cdv A outer s₀ H₀ E).stack := fun b o eb hb hm => by
    rcases List.mem_cons.mp (I.stkSub b hm) with z | z
    · exact absurd z (Nat.ne_of_lt (Nat.lt_of_lt_of_le (Heap.lt_size eb) I.ok.above))
    · exact hb z
  refine wpAny_leaves_madeW (base := PySem.W.hideAll s.heap (frs (cxOf (CXE P w) P w K mg base N qual scope f cdv A outer s₀ H₀ E).stack)) (h := s.heap) (L := s₀.heap.objs.size) I.ok.frames rfl (fun b o z => PySem.W.of_hideAll _ z) (PySem.W.funFrames_hide I.stack hin) hx fun h'' t fl _ _ up => ?_
  have big : Big (PySem.W.hideAll s.heap (frs (cxOf (CXE P w) P w K mg base N qual scope f cdv A outer s₀ H₀ E).stack)) (frs outer) H s₀.heap := by
    refine ⟨fun b o eb => ?_,fun b o eb hb => ?_⟩
    · obtain ⟨ob,z⟩ := (I.hok b o eb).has
      refine ⟨ob,PySem.W.hideAll_get _ z fun hm => ?_⟩
      rw [I.stkFree b hm] at eb
      cases eb
    · obtain ⟨ob,z⟩ := I.base.there b o eb (by intro z; cases z)
      exact ⟨ob,PySem.W.hideAll_get _ z (neL b o eb hb)⟩
  have st1 : (PySem.W.hideAll s.heap (frs (cxOf (CXE P w) P w K mg base N qual scope f cdv A outer s₀ H₀ E).stack)).StaysIn s.heap := fun b o z => PySem.W.of_hideAll _ z
  have sl : s.heap.UpToSlots h'' := (Heap.UpToSlots.of_keeps hx.keeps).trans up
  exact ⟨e,t,cls,H,_,rfl,I.os,I.bare,Un.fly I.base big st1 fl.1 sl fun b hb => ⟨I.ok.frf b hb,fun o eo => by
      obtain ⟨_,o',eo',nf⟩ := I.funs.mem hb
      rw [eo] at eo'
      cases eo'
      exact nf⟩,HOk.fly I.hok big st1 fl.1,fl,big,q⟩
theorem pass_on {E1 : XK} (hE : ∀ c o H',E1 c o H' → E c o H') : Passes (CXE P w) (cxOf (CXE P w) P w K mg base N qual scope f cdv A outer s₀ H₀ E) E1 := by
  intro pins σ H s e s' I h
  obtain ⟨ea,t,cls,H',B,rfl,os,bare,un,hok,fl,big,q⟩ := h
  refine wpAny_leaves_onW (L := s₀.heap.objs.size) I.ok.frames rfl fl fun h'' fl' up => ?_
  have out : ∀ x o,s₀.heap.get? x = some o → x ∈ frs (cxOf (CXE P w) P w K mg base N qual scope f cdv A outer s₀ H₀ E).stack → x ∈ frs outer := fun x o ex hm => by
    rcases List.mem_cons.mp (I.stkSub x hm) with z | z
    · exact absurd z (Nat.ne_of_lt (Nat.lt_of_lt_of_le (Heap.lt_size ex) I.ok.above))
    · exact z
  have sub : ∀ x ∈ frs outer,x ∈ frs (cxOf (CXE P w) P w K mg base N qual scope f cdv A outer s₀ H₀ E).stack := fun x hx => by
    show x ∈ frs (_ :: outer)
    rw [frs_cons (L := s₀.heap.objs.size) rfl]
    exact List.mem_cons_of_mem _ hx
  have un1 : Un (frs outer) [] H₀ H' s₀.heap s'.heap := Un.shed I.base un sub out
  have big1 : Big B (frs outer) H' s₀.heap := by
    refine ⟨big.tr,fun b o eb hb => ?_⟩
    obtain ⟨ob,z⟩ := I.base.there b o eb (by intro z; cases z)
    exact big.old b ob z fun hm => hb (out b o eb hm)
  refine ⟨ea,t,cls,H',B,rfl,os.trans I.os,bare,Un.fly un1 big1 fl.1 fl'.1 up fun b hb => ⟨I.ok.frf b hb,fun o eo => ?_⟩,HOk.fly hok big1 fl.1 fl'.1,fl',big1,hE _ _ _ q⟩
  obtain ⟨_,o',eo',nf⟩ := fl'.2.2.1.mem hb
  obtain ⟨_,o2,eo2,nf2⟩ := fl.2.2.1.mem (sub b hb)
  rw [eo] at eo2
  cases eo2
  exact nf2
end
structure ExcC (K : PySem.W.Frag) (mg : Str → Option Value) (x : Str) (C : Addr) : Prop where
  bound : mg x = some (.ref C)
  obj : ∀ h : Heap,K.In h → ∃ bm N nm qn bs hd sn sub ab col dd k0 k1 k2 k3 k5 mN,h.get? C = some (excClassObj nm qn C N bs bm hd sn sub ab col dd k0 k1 k2 k3 k5 "ValueError.__new__") ∧ h.Ns N mN ∧ mN "__init__" = none ∧
    OwnTail h [.type "ValueError",.type "Exception",.type "BaseException",.type "object"] bm
theorem exc_obj {K : PySem.W.Frag} {h : Heap} {C : Addr} {bmB : List Value} {newId : String} (X : K.In h) (q : PySem.W.excIn K C bmB newId = true) :
    ∃ bm N nm qn bs hd sn sub ab col dd k0 k1 k2 k3 k5 mN,h.get? C = some (excClassObj nm qn C N bs bm hd sn sub ab col dd k0 k1 k2 k3 k5 newId) ∧ h.Ns N mN ∧ mN "__init__" = none ∧ OwnTail h bmB bm := by
  unfold PySem.W.excIn at q
  split at q
  next dct cl sls look =>
    split at q
    next C2 bms a0 a1 a2 a3 nid a5 hmro hsls =>
      simp only [Bool.not_eq_true',beq_iff_eq,Bool.and_eq_true] at q
      obtain ⟨⟨⟨⟨⟨q1,q2⟩,q3⟩,q4⟩,q5⟩,q6⟩ := q
      subst q1 q2
      obtain ⟨c1,c2,c3,c4,c5,c6,c7,c8,c9,c10,c11⟩ := cl
      dsimp only at hmro q3 q5 q6
      subst hmro q3
      obtain ⟨lst⟩ := sls
      simp only at hsls
      subst hsls
      exact ⟨bms,c4,c1,c5,c2,c6,c7,c8,c9,c10,dct,a0,a1,a2,a3,a5,_,X _ _ look,.of_isNs (PySem.W.isNs_of_in X q5),PySem.W.nsMap_none_of_in X q5 q6,PySem.W.tail_of_in X q4⟩
    next => cases q
  next => cases q
theorem exc_mk {K : PySem.W.Frag} {mg : Str → Option Value} {h : Heap} {x : Str} {C : Addr} (X : K.In h) (G : h.Ns mainGlobals mg) (a : PySem.W.nsIn K mainGlobals x = some (some (.ref C)))
    (q : PySem.W.excIn K C [.type "ValueError",.type "Exception",.type "BaseException",.type "object"] "ValueError.__new__" = true) : ExcC K mg x C := ⟨PySem.W.mg_of X G a,fun _ Y => exc_obj Y q⟩
section
variable {P : Program} {w : World} {K : PySem.W.Frag} {mg : Str → Option Value} {base : Heap} {N : List Str} {qual : Str} {scope : Scope} {f : Addr} {cdv : Value} {A : Around} {outer : List Env} {s₀ : Shared} {H₀ : Hp} {E : XK}
theorem ps_raise {x : Str} {C : Addr} {np cpos pos : Pos} (O : ExcC K mg x C) (hg : Gl (cxOf (CXE P w) P w K mg base N qual scope f cdv A outer s₀ H₀ E) x) (hdb : (x == ("__debug__" : Str)) = false := by decide) :
    PS (cxOf (CXE P w) P w K mg base N qual scope f cdv A outer s₀ H₀ E) (.Raise (some (.Call (.Name x np) [] [] cpos)) none pos) (fun _ _ H => E (.ref C) none H) := by
  intro pins s σ H D I h
  obtain ⟨bm,N',nm,qn,bs,hd,sn,sub,ab,col,dd,k0,k1,k2,k3,k5,mN,hC,hN,hni,T⟩ := O.obj s.heap I.kIn
  refine wpAny_Raise_call_subT (C := C) (nm := nm) (q := qn) (N := N') (bs := bs) (bm := bm) (hdct := hd) (sn := sn) (sub := sub) (ab := ab) (col := col) (dd := dd) (k0 := k0) (k1 := k1) (k2 := k2) (k3 := k3) (k5 := k5) PySem.F.excBase_ValueError (mN := mN) (T.hasType (by decide +kernel)) (I.ok.hd rfl) rfl hni (ld_glob I hg O.bound ⟨rfl,?_⟩ hdb)
  exact evalArgs_empty ⟨rfl,Nat.zero_le _,hC,hN,T,fun h' e hx => raised I hx h⟩
end
abbrev Cx.inH (X : Cx) (e : Addr) : Cx := { X with A := X.A.mark (some (.ref e)),calm := false,xe := fun _ _ => False }
theorem Inv.inH {X : Cx} {pins : List (Addr × Obj)} {σ : St} {H : Hp} {s : Shared} (I : Inv X pins σ H s) (e : Addr) : Inv (X.inH e) pins σ H s :=
  ⟨⟨I.ok.mod,I.ok.kind,I.ok.glob,I.ok.blt,I.ok.above,I.ok.inj,I.ok.has,I.ok.cab,(fun z => by cases z),I.ok.frames,I.ok.stk,I.ok.exf,I.ok.bs,I.ok.bsz,I.ok.noex,I.ok.exfs,I.ok.funs,I.ok.frf⟩,
    I.os,I.bare,I.base,I.loc,I.cell,I.free,I.freeC,I.pin,I.hok,I.len⟩
theorem Inv.outH {X : Cx} {e : Addr} {pins : List (Addr × Obj)} {σ : St} {H : Hp} {s : Shared} (ok : X.Ok) (I : Inv (X.inH e) pins σ H s) : Inv X pins σ H s :=
  ⟨ok,I.os,I.bare,I.base,I.loc,I.cell,I.free,I.freeC,I.pin,I.hok,I.len⟩
section
variable {X : Cx}
end
abbrev TX := (Value → St → Hp → Prop) → TS
def XP (X : Cx) (pins : List (Addr × Obj)) (R : Value → St → Hp → Prop) (ev : Value) (s' : Shared) : Prop :=
  ∃ (s₁ : Shared) (σ₁ : St) (H₁ : Hp) (E1 : XK),Inv X pins σ₁ H₁ s₁ ∧ CXE X.prog X.w X.stack H₁ s₁ E1 ev s' ∧ ∀ c o H',E1 c o H' → R c σ₁ H'
def PX (X : Cx) (st : Stmt) (t : TX) : Prop :=
  ∀ (pins : List (Addr × Obj)) (s : Shared) (σ : St) (H : Hp) (D : Ends) (R : Value → St → Hp → Prop),Inv X pins σ H s → t R D σ H → wpAny (model X.prog X.w) X.A (exec st X.env) (SP X pins D) (XP X pins R) s
def PXs (X : Cx) (st : List Stmt) (t : TX) : Prop :=
  ∀ (pins : List (Addr × Obj)) (s : Shared) (σ : St) (H : Hp) (D : Ends) (R : Value → St → Hp → Prop),Inv X pins σ H s → t R D σ H → wpAny (model X.prog X.w) X.A (execs st X.env) (SP X pins D) (XP X pins R) s
structure Fx (P : Program) (w : World) (K : PySem.W.Frag) (mg : Str → Option Value) (base : Heap) (x : Str) (ps : List Str) (k : Nat) (ds : List V) (sp : Sp) : Prop where
  ex : ∃ (f : Addr) (fd : FuncData) (its : List Value),mg x = some (.ref f) ∧ PySem.W.keepIn K (.ref f) = true ∧ Binds K fd ps [] ∧ Binds K fd ps its ∧ Vals ds its ∧ FnOk P w K mg base (CXE P w) k f fd ps sp
theorem Df.fx {P : Program} {w : World} {K : PySem.W.Frag} {mg : Str → Option Value} {base : Heap} {x : Str} {st : Stmt} {N ps : List Str} {k : Nat} {sp : Sp} (D : Df K mg x st) (S : FnScope N ps (defScope st))
    (hbind : ∀ (kV doc pm : Value) (an : Option Addr) (cdv ct : Value) (us : List Value),us.length = ps.length → bindArgs (PySem.W.fnOf x x (defArgs st) (defBody st) (defScope st) .none kV doc pm an cdv ct) ⟨us,[]⟩ = pure (ps.zip us))
    (len : ∀ vs H Q E,sp vs H Q E → vs.length = ps.length)
    (hbody : ∀ (f : Addr) (cdv : Value) (A : Around) (outer : List Env) (s : Shared) (H : Hp) (vs : List V) (Q : VK) (E : XK),Room k (A.deeper (envOfC x (defScope st) s.heap.objs.size f cdv)) → sp vs H Q E →
      ∃ t,PSs (cxOf (CXE P w) P w K mg base N x (defScope st) f cdv A outer s H E) (defBody st) t ∧ t { nx := fun _ H' => Q .non H',rt := Q } (start N vs) H) : Fx P w K mg base x ps (k + 1) [] sp := by
  obtain ⟨f,oc,od,kV,doc,pm,an,cdv,ct,osl,hm,lk,hcd,hk⟩ := D.ex
  have hb : Binds K (PySem.W.fnOf x x (defArgs st) (defBody st) (defScope st) .none kV doc pm an cdv ct) ps [] := .all (hbind kV doc pm an cdv ct)
  exact ⟨⟨f,_,[],hm,hk,hb,hb,.nil,fn_of lk hcd S len fun A outer s H vs Q E hr hsp => hbody f cdv A outer s H vs Q E hr hsp⟩⟩
theorem pe_fx {P : Program} {w : World} {K : PySem.W.Frag} {mg : Str → Option Value} {base : Heap} {N : List Str} {qual : Str} {scope : Scope} {f : Addr} {cdv : Value} {A : Around} {outer : List Env} {s₀ : Shared} {H₀ : Hp} {E : XK}
    {x : Str} {ps : List Str} {k : Nat} {ds : List V} {sp : Sp} {p pos : Pos} {e : Expr} {es : List Expr} {t : TA} (F : Fx P w K mg base x ps k ds sp) (hr : Room k (cxOf (CXE P w) P w K mg base N qual scope f cdv A outer s₀ H₀ E).A) (hg : Gl (cxOf (CXE P w) P w K mg base N qual scope f cdv A outer s₀ H₀ E) x)
    (ha : PA (cxOf (CXE P w) P w K mg base N qual scope f cdv A outer s₀ H₀ E) (e :: es) t)
    (hdb : (x == ("__debug__" : Str)) = false := by decide) (he : starEach (e :: es) (cxOf (CXE P w) P w K mg base N qual scope f cdv A outer s₀ H₀ E).env = (false,eval e (cxOf (CXE P w) P w K mg base N qual scope f cdv A outer s₀ H₀ E).env) :: starEach es (cxOf (CXE P w) P w K mg base N qual scope f cdv A outer s₀ H₀ E).env := by rfl)
    (hpl : (backTo pos (starEach es (cxOf (CXE P w) P w K mg base N qual scope f cdv A outer s₀ H₀ E).env)).any (·.1) = false := by rfl) :
    PE (cxOf (CXE P w) P w K mg base N qual scope f cdv A outer s₀ H₀ E) (.Call (.Name x p) (e :: es) [] pos) (tCall sp [] E t) := by
  obtain ⟨g,fd,its,hm,hk,hb,_,_,G⟩ := F.ex
  exact pe_call G hr hg hm hk hb .nil (pass_on fun _ _ _ z => z) ha hdb he hpl
theorem pass_none {P : Program} {w : World} {X : Cx} : Passes (CXE P w) X E0 := fun _ _ _ _ _ _ _ h => by
  obtain ⟨_,_,_,_,_,_,_,_,_,_,_,_,q⟩ := h
  exact q.elim
section
variable {X : Cx}
variable {x fn : Str} {i : Nat} {ps : List Str} {k : Nat} {ds : List V} {sp : Sp} {e : Expr} {es : List Expr} {ta : TA} {px pf cpos pos : Pos}
theorem pxs_one {st : Stmt} {t : TX} (h1 : PX X st t) : PXs X [st] t := by
  intro pins s σ H D R I h
  refine wpAny_execs_cons (thn (h1 pins s σ H D R I h) fun f s1 q => ?_)
  cases f with
  | next => exact wpAny_execs_nil q
  | ret v => exact q
  | brk => exact q
  | cont => exact q
end
end L2
namespace Sp2
open PySem PySem.Spec L2 Mth Sp1
structure LineAt (H : Hp) (l : Addr) (qs : List (Addr × Int × Int)) : Prop where
  lst : H l = some (.lst (qs.map fun q => V.ref q.1))
  crn : ∀ q ∈ qs,H q.1 = some (.tup [.int q.2.1,.int q.2.2]) ∧ bits q.2.1 ≤ 50 ∧ bits q.2.2 ≤ 50
theorem LineAt.mono {H H' : Hp} {l : Addr} {qs : List (Addr × Int × Int)} (L : LineAt H l qs) (s : Same H H') : LineAt H' l qs := ⟨s _ _ L.lst,fun q h => ⟨s _ _ (L.crn q h).1,(L.crn q h).2⟩⟩
end Sp2
namespace L2
open PySem PySem.Spec PyProof.Rows
end L2
namespace L2
open PySem PySem.Spec PyProof.Rows
abbrev Cx.blk (X : Cx) (N' : List Str) (scope : Scope) (cl : List (Str × Addr)) (fp : List Addr) (s₀ : Shared) (H₀ : Hp) : Cx :=
  { X with N := N',s₀ := s₀,H₀ := H₀,env := compEnvC scope cl s₀.heap.objs.size X.env,outer := X.stack,ex := fp,fn := fun _ => false,pn := [],xe := fun _ _ => False }
theorem lookup_mem {α : Type} {y : Str} {c : α} : ∀ {l : List (Str × α)},l.lookup y = some c → (y,c) ∈ l
  | [],h => by simp at h
  | (n,d) :: r,h => by
    rw [List.lookup_cons] at h
    cases e : y == n with
    | true =>
      rw [e] at h
      cases h
      rw [beq_iff_eq.mp e]
      exact List.mem_cons_self
    | false =>
      rw [e] at h
      exact List.mem_cons_of_mem _ (lookup_mem h)
structure CompN (X : Cx) (scope : Scope) (cl : List (Str × Addr)) (x : Str) (fv : List (Str × Nat)) : Prop where
  clos : closureFor scope X.env = pure cl
  kind : scope.kind = .function
  cell : ∀ y ∈ scope.names,y.2 ≠ .cell
  names : ∀ y ∈ scope.names,y.2 = .local → scope.names.lookup y.1 = some .local
  own : scope.names.lookup x = some .local
  cells : ∀ p ∈ cl,X.env.cells.lookup p.1 = some p.2
  has : ((relabel scope X.env).names.all fun q => !(q.2 == .cell || q.2 == .free) || (cl.lookup q.1).isSome) = true
  nd : (x :: fv.map (·.1)).Nodup
  slot : ∀ p ∈ fv,X.N[p.2]? = some p.1 ∧ X.env.kindOf p.1 = some .cell ∧ Vis X.env.scope p.1 ∧ (cl.lookup p.1).isSome = true ∧ ((relabel scope X.env).names.lookup p.1 = some .cell)
  stk : X.stack = X.env :: X.outer ∧ X.env.frame = some X.env.locals
  noex : X.ex = []
def fvs (fv : List (Str × Nat)) (σ : St) : St := fv.map fun p => (σ[p.2]?).join
def tComp (wi : TI) (fv : List (Str × Nat)) (te : TE) : TE := fun σ H Q => wi σ H fun J H1 => ∀ p,H1 p = none → ∃ W : Nat → Nat → List V → Hp → Prop,(∃ m,W 0 m [] (upd H1 p (.lst []))) ∧ ∀ i m acc H2,W i m acc H2 →
  H2 p = some (.lst acc) ∧ acc.length < sizeLine ∧ ((J.stop i H2 ∧ Q (.ref p) H2) ∨ (J.go i H2 ∧ ∀ x H3,J.yld i H2 x H3 → te (some x :: fvs fv σ) H3 fun y H4 => H4 p = some (.lst acc) ∧ ∃ m',m' < m ∧ W (i + 1) m' (acc ++ [y]) (upd H4 p (.lst (acc ++ [y])))))
section
variable {X : Cx} {scope : Scope} {cl : List (Str × Addr)} {x : Str} {fv : List (Str × Nat)} {elt iter : Expr} {px pos : Pos} {te : TE}
theorem blk_ok {pins : List (Addr × Obj)} {σ : St} {H : Hp} {s : Shared} {fp : List Addr} (C : CompN X scope cl x fv) (I : Inv X pins σ H s) (hf : ∀ b ∈ fp,FpOk X pins H b) (ho : ∀ b ∈ fp,b < s.heap.objs.size) : (X.blk (x :: fv.map (·.1)) scope cl fp s H).Ok := by
  have hcl : ∀ y c,cl.lookup y = some c → X.env.cells.lookup y = some c := fun y c h => C.cells _ (lookup_mem h)
  have old : ∀ b ∈ fp,X.s₀.heap.objs.size ≤ b := fun b hb => by
    rcases (hf b hb).2.2.2.1 with z | z
    · rw [C.noex] at z
      cases z
    · exact z
  refine ⟨I.ok.mod,by show (relabel scope X.env).kind = _; exact C.kind,I.ok.glob,I.ok.blt,Nat.le_refl _,fun y z c h1 h2 => I.ok.inj y z c (hcl y c h1) (hcl z c h2),fun y hy => ?_,(fun y c h => by cases h),I.ok.hd,I.ok.frames,.inl rfl,fun b hb => ?_,fun b o e => I.bs b o e,Nat.le_trans I.ok.bsz I.sz,fun b o e hb => ?_,fun b hb hm => ?_,I.stack,I.stkFree⟩
  · have q := C.has
    rw [List.all_eq_true] at q
    have hm : ∃ k,(y,k) ∈ (relabel scope X.env).names ∧ (k = .cell ∨ k = .free) := by
      rcases hy with hy | hy
      · exact ⟨_,lookup_mem hy,.inl rfl⟩
      · exact ⟨_,lookup_mem hy,.inr rfl⟩
    obtain ⟨k,hk,hk2⟩ := hm
    have q2 := q _ hk
    have q3 : (cl.lookup y).isSome = true := by
      rcases hk2 with rfl | rfl
      · simpa using q2
      · simpa using q2
    exact Option.isSome_iff_exists.mp q3
  · obtain ⟨f0,f1,f2,f3,f4,f5⟩ := hf b hb
    refine ⟨?_,fun y c h => f4 y c (hcl y c h)⟩
    exact Nat.ne_of_lt (ho b hb)
  · have z := Heap.lt_size e
    have z2 := old b hb
    exact absurd (Nat.lt_of_lt_of_le z (Nat.le_trans I.ok.bsz z2)) (Nat.lt_irrefl _)
  · obtain ⟨f0,f1,f2,f3,f4,f5⟩ := hf b hb
    rcases List.mem_cons.mp (I.stkSub b hm) with z | z
    · exact f1 z
    · exact f2 z
theorem blk_inv {pins : List (Addr × Obj)} {σ : St} {H : Hp} {s s4 : Shared} {fp : List Addr} (C : CompN X scope cl x fv) (I : Inv X pins σ H s) (hf : ∀ b ∈ fp,FpOk X pins H b) (ho : ∀ b ∈ fp,b < s.heap.objs.size)
    (hs : s4.os = s.os ∧ s4.gens = s.gens) (ns : s4.heap.Ns s.heap.objs.size fun _ => none) (kp : ∀ b o,s.heap.get? b = some o → s4.heap.get? b = some o) :
    Inv (X.blk (x :: fv.map (·.1)) scope cl fp s H) [] (none :: fvs fv σ) H s4 := by
  have hcl : ∀ y c,cl.lookup y = some c → X.env.cells.lookup y = some c := fun y c h => C.cells _ (lookup_mem h)
  refine ⟨blk_ok C I hf ho,hs.1,by rw [hs.2]; exact I.bare,Un.kept kp,⟨_,ns,fun i y v e1 e2 e3 => ?_⟩,fun y c h => ?_,I.hok.fresh (Nat.le_refl _),fun y c h => I.freeC y c (hcl y c h),fun p hp => by simp at hp,I.hok.kept kp,by simp [fvs]⟩
  · cases i with
    | zero => simp at e2
    | succ j =>
      have e1' : (fv.map (·.1))[j]? = some y := by simpa using e1
      have e2' : (fvs fv σ)[j]? = some (some v) := by simpa using e2
      rw [List.getElem?_map] at e1'
      unfold fvs at e2'
      rw [List.getElem?_map] at e2'
      cases hq : fv[j]? with
      | none =>
        rw [hq] at e1'
        cases e1'
      | some q =>
        rw [hq] at e1' e2'
        have ey : q.1 = y := Option.some.inj e1'
        have ev : (σ[q.2]?).join = some v := Option.some.inj e2'
        have hm : q ∈ fv := List.mem_of_getElem? hq
        obtain ⟨s1,s2,s3,s4',s5⟩ := C.slot q hm
        have ev2 : σ[q.2]? = some (some v) := by
          cases hz : σ[q.2]? with
          | none =>
            rw [hz] at ev
            cases ev
          | some z =>
            rw [hz] at ev
            have ev' : z = some v := ev
            rw [ev']
        obtain ⟨m,hn,hl⟩ := I.loc
        obtain ⟨u,r,lk⟩ := hl q.2 q.1 v s1 ev2 s3
        obtain ⟨c,hc⟩ := Option.isSome_iff_exists.mp s4'
        refine ⟨u,r,.inr ⟨.inl (by rw [← ey]; exact s5),c,by rw [← ey]; exact hc,?_⟩⟩
        rcases lk with ⟨k,_⟩ | ⟨_,c',hc',z⟩
        · rw [s2] at k
          cases k
        · rw [hcl _ _ hc] at hc'
          cases hc'
          obtain ⟨o,ho',hd⟩ := z
          exact ⟨o,kp _ _ ho',hd⟩
  · obtain ⟨v,o,ho',hd⟩ := I.cell y c (hcl y c h)
    exact ⟨v,o,kp _ _ ho',hd⟩
theorem blk_run {pins : List (Addr × Obj)} {σ : St} {H2 : Hp} {s2 : Shared} {it : Addr} {fp : List Addr} {tn : Nat → Heap → Prop} {J : It} {RR : Value → Addr → Result → Shared → Prop} {E : Value → Shared → Prop} {Qf : V → Hp → Prop}
    (hcalm : X.calm = true) (C : CompN X scope cl x fv) (I2 : Inv X pins σ H2 s2) (T : Turn X.prog X.w X.K (.Name x px) J fp it tn) (st : tn 0 s2.heap) (f2 : ∀ b ∈ fp,FpOk X pins H2 b)
    (rd : ∀ p,H2 p = none → ∃ W : Nat → Nat → List V → Hp → Prop,(∃ m,W 0 m [] (upd H2 p (.lst []))) ∧ ∀ i m acc H2,W i m acc H2 →
      H2 p = some (.lst acc) ∧ acc.length < sizeLine ∧ ((J.stop i H2 ∧ Qf (.ref p) H2) ∨ (J.go i H2 ∧ ∀ x H3,J.yld i H2 x H3 → te (some x :: fvs fv σ) H3 fun y H4 => H4 p = some (.lst acc) ∧ ∃ m',m' < m ∧ W (i + 1) m' (acc ++ [y]) (upd H4 p (.lst (acc ++ [y]))))))
    (he : ∀ (s₀ : Shared) (H₀ : Hp),PE (X.blk (x :: fv.map (·.1)) scope cl fp s₀ H₀) elt te)
    (hRR : ∀ (p C : Addr) (H' : Hp) (s' : Shared),(∃ m,s'.heap.Ns C m) → C ≠ X.env.locals → H' C = none → X.s₀.heap.objs.size ≤ C → (∀ y c,X.env.cells.lookup y = some c → c ≠ C) → (∀ q ∈ X.pn ++ pins,q.1 ≠ C) → Inv X pins σ H' s' → Qf (.ref p) H' → RR (.ref p) C (.ok .next) s') :
    wpAny (model X.prog X.w) X.A (newList []) (fun acc s₃ => wpAny (model X.prog X.w) X.A (newFunctionEnv scope X.env.globals cl [] X.env.qual none .none (some X.env)) (fun cenv s₄ =>
      codeAny (model X.prog X.w) X.A (.compStart (.ListComp elt [⟨.Name x px,iter,[],0⟩] scope pos) 0 (.ref it) acc { cenv with scope := relabel scope X.env }) (RR acc cenv.locals) s₄) E s₃) E s2 := by
  refine wpAny_newObj_type ?_
  have hfresh := I2.fresh
  have I3 : Inv X pins σ (upd H2 s2.heap.objs.size (.lst [])) { s2 with heap := s2.heap.push { cls := .type "list",data := .seq ([] : List Value).toArray } } :=
    I2.laid (t' := s2.toks) (fun b u q => Heap.get?_push_of_some _ q) (Nat.le_refl _) ⟨Nat.zero_le _,[],0,.nil,Heap.get?_push_size _ rfl⟩
  generalize hs3 : ({ s2 with heap := s2.heap.push { cls := .type "list",data := .seq ([] : List Value).toArray } } : Shared) = s3 at I3 ⊢
  have hp3 : s2.heap.objs.size < s3.heap.objs.size := by rw [← hs3]; exact Nat.lt_of_lt_of_le (Nat.lt_succ_self _) (Nat.le_of_eq (Heap.size_push _ _).symm)
  have k23 : ∀ b o,s2.heap.get? b = some o → s3.heap.get? b = some o := fun b o e => by rw [← hs3]; exact Heap.get?_push_of_some _ e
  have fpo : ∀ b ∈ fp,b < s2.heap.objs.size := fun b hb => by
    obtain ⟨o,e,_⟩ := T.obj 0 _ st b hb
    exact Heap.lt_size e
  have f3 : ∀ b ∈ fp,FpOk X pins (upd H2 s2.heap.objs.size (.lst [])) b := fun b hb => ⟨by rw [upd_ne (Nat.ne_of_lt (fpo b hb))]; exact (f2 b hb).1,(f2 b hb).2⟩
  refine wpAny_newFunctionEnv C.cell (by intro y hy; simp at hy) (fun h1 hns1 hsb1 => ?_) C.kind
  have kp : ∀ b o,s3.heap.get? b = some o → h1.get? b = some o := fun b o e => (hsb1.2 b (Nat.ne_of_lt (Heap.lt_size e))).trans (Heap.get?_push_of_some _ e)
  have I4 := blk_inv (s4 := { s3 with heap := h1,toks := s3.toks + ([] : List (Str × Value)).length }) C I3 f3 (fun b hb => Nat.lt_trans (fpo b hb) hp3) ⟨rfl,rfl⟩ hns1 kp
  have st4 : tn 0 h1 := T.keep 0 _ _ st fun b _ o e => kp b o (k23 b o e)
  obtain ⟨W,⟨m0,w0⟩,step⟩ := rd _ hfresh
  have loop : codeAny (model X.prog X.w) X.A (.compLoop (.ListComp elt [⟨.Name x px,iter,[],0⟩] scope pos) 0 (.ref it) (.ref s2.heap.objs.size) (compEnvC scope cl s3.heap.objs.size X.env)) (RR (.ref s2.heap.objs.size) s3.heap.objs.size)
      { s3 with heap := h1,toks := s3.toks + ([] : List (Str × Value)).length } := by
    refine codeAny_compLoop_list (fun n s => ∃ i acc σv H',Inv (X.blk (x :: fv.map (·.1)) scope cl fp s3 (upd H2 s2.heap.objs.size (.lst []))) [] (σv :: fvs fv σ) H' s ∧ tn i s.heap ∧ (∀ b ∈ fp,H' b = none) ∧ W i n acc H') ?_ m0 ⟨0,[],none,_,I4,st4,fun b hb => (f3 b hb).1,w0⟩
    rintro n s ⟨i,acc,σv,H',I',st',fr',w'⟩
    obtain ⟨hp,hlen,alt⟩ := step i n acc H' w'
    have fpk : ∀ {H5 : Hp},(∀ b ∈ fp,H5 b = none) → ∀ b ∈ fp,FpOk (X.blk (x :: fv.map (·.1)) scope cl fp s3 (upd H2 s2.heap.objs.size (.lst []))) [] H5 b := fun h5 b hb =>
      ⟨h5 b hb,(I'.ok.exf b hb).1,I'.ok.exfs b hb,.inl hb,fun y c e => (I'.ok.exf b hb).2 y c e,fun q hq => by simp at hq⟩
    rcases alt with ⟨stop,qf⟩ | ⟨go,turn⟩
    · refine wpAny_mono (T.done (X.blk (x :: fv.map (·.1)) scope cl fp s3 (upd H2 s2.heap.objs.size (.lst []))) rfl rfl rfl hcalm i [] s _ H' (fun _ _ => False) I' (fpk fr') st' stop) (fun r s5 ⟨hr,I5⟩ => ?_) fun _ _ z => False.elim z
      subst hr
      refine hRR _ _ H' s5 (let ⟨m,hn,_⟩ := I5.loc; ⟨m,hn⟩) (Nat.ne_of_gt I3.lt) I5.free I3.sz (fun y c e => ?_) (fun q hq => ?_) ?_ qf
      · obtain ⟨v,z⟩ := I3.cell y c e
        exact Nat.ne_of_lt z.lt
      · exact Nat.ne_of_lt (Heap.lt_size (I3.pin q hq).1)
      · exact I3.call' (s' := s5) (ch := fp) I5.os I5.base I5.hok I5.bare fun b hb => ⟨(f2 b hb).2.2.2.1,(f2 b hb).2.1,(f2 b hb).2.2.2.2.1,(f2 b hb).2.2.2.2.2⟩
    · refine wpAny_mono (T.item (X.blk (x :: fv.map (·.1)) scope cl fp s3 (upd H2 s2.heap.objs.size (.lst []))) rfl rfl rfl hcalm i [] s _ H' (fun _ _ => False) I' (fpk fr') st' go) (fun r s5 ⟨u,hr,h5⟩ => ?_) fun _ _ z => False.elim z
      subst hr
      have e5 : assign (.Name x px) (compEnvC scope cl s3.heap.objs.size X.env) u = (letOwnedTupleGo (.Name x px) (.ref it) u >>= fun _ => assign (.Name x px) (compEnvC scope cl s3.heap.objs.size X.env) u) := by
        rw [show letOwnedTupleGo (.Name x px) (.ref it) u = pure () from rfl]
        rfl
      show wpAny _ _ (assign (.Name x px) (compEnvC scope cl s3.heap.objs.size X.env) u) _ _ _
      rw [e5]
      refine wpAny_bind (wpAny_mono h5 (fun _ s6 ⟨y,H6,I6,r6,y6,st6,fr6⟩ => ?_) fun _ _ z => False.elim z)
      have I6' := I6.pinned (fpk fr6) (T.obj _ _ st6)
      have lx : (relabel scope X.env).names.lookup x = some .local := lookup_relabel_local C.own
      refine wpAny_mono (pg_name (X := X.blk (x :: fv.map (·.1)) scope cl fp s3 (upd H2 s2.heap.objs.size (.lst []))) (i := 0) C.nd rfl (.inl lx) (.inr lx) _ s6 _ H6 y u (fun σ7 H7 => σ7 = some y :: fvs fv σ ∧ H7 = H6) I6' r6 ⟨rfl,rfl⟩) (fun _ s7 ⟨σ7,H7,I7,e7,e7'⟩ => ?_) fun _ _ z => False.elim z
      subst e7 e7'
      refine wpAny_mono (he s3 _ _ s7 _ _ _ I7 (turn y _ y6)) (fun v8 s8 ⟨y8,H8,I8,r8,q8,m',hm',w8⟩ => ?_) fun _ _ z => False.elim z
      refine wpAny_mono (mt_append (X := X.blk (x :: fv.map (·.1)) scope cl fp s3 (upd H2 s2.heap.objs.size (.lst []))) _ s8 _ H8 (.ref s2.heap.objs.size) [y8] (.ref s2.heap.objs.size) [v8] (fun _ H9 => H9 = upd H8 s2.heap.objs.size (.lst (acc ++ [y8]))) I8 rfl (.cons r8 .nil) ⟨_,acc,y8,rfl,rfl,q8,hlen,rfl⟩) (fun _ s9 ⟨_,H9,I9,_,e9⟩ => ?_) fun _ _ z => False.elim z
      subst e9
      refine ⟨m',hm',i + 1,acc ++ [y8],some y,_,I9.unpinned,T.keep _ _ _ st6 fun b hb o e => (I9.pin (b,o) (List.mem_append_right _ (List.mem_append_right _ (mem_pinsAt hb e)))).1,fun b hb => ?_,w8⟩
      obtain ⟨o,e,d⟩ := T.obj _ _ st6 b hb
      exact (I9.pin (b,o) (List.mem_append_right _ (List.mem_append_right _ (mem_pinsAt hb e)))).2.1
  exact codeAny_compStart_list loop (T.self _ 0 _ _ _ st4 loop)
theorem pe_comp {wi : TI} (hcalm : X.calm = true) (C : CompN X scope cl x fv) (hi : PI X (.Name x px) iter wi) (he : ∀ (fp : List Addr) (s₀ : Shared) (H₀ : Hp),PE (X.blk (x :: fv.map (·.1)) scope cl fp s₀ H₀) elt te)
    (hs : ∀ v,foldedSetIterable iter X.env v = pure v := by intro _; rfl) : PE X (.ListComp elt [⟨.Name x px,iter,[],0⟩] scope pos) (tComp wi fv te) := by
  intro pins s σ H Q I h
  rw [eval_ListComp]
  refine wpAny_comprehension_free (use := none) rfl hs C.clos C.kind C.names (wpAny_mono (hi pins s σ H _ I h) (fun v s1 h1 => wpAny_mono h1 (fun itv s2 h2 => ?_) fun _ _ z => z) fun _ _ z => z)
  obtain ⟨it,fp,tn,J,H2,rfl,I2,T,st2,f2,rd⟩ := h2
  refine blk_run (Qf := Q) hcalm C I2 T st2 f2 rd (he fp) fun p D H' s' ns nL nH n0 nC nP I8 q => ?_
  obtain ⟨m,hn⟩ := ns
  exact ⟨m,hn,fun h'' sb => ⟨.ref p,H',I8.turned (t' := s'.toks) (fun b o hb e => (sb.2 b hb).trans e) nH nL (.inr n0) nC nP,rfl,q⟩⟩
theorem ps_setComp {wi : TI} {y : Str} {j : Nat} {py spos : Pos} (hcalm : X.calm = true) (C : CompN X scope cl x fv) (hN : X.N.Nodup) (hj : X.N[j]? = some y) (hy : X.env.scope.names.lookup y = some .local) (hi : PI X (.Name x px) iter wi) (he : ∀ (fp : List Addr) (s₀ : Shared) (H₀ : Hp),PE (X.blk (x :: fv.map (·.1)) scope cl fp s₀ H₀) elt te)
    (hsw : swapsWith (.ListComp elt [⟨.Name x px,iter,[],0⟩] scope pos) (some (.Name y py)) spos.line X.env = pure true := by rfl)
    (hs : ∀ v,foldedSetIterable iter X.env v = pure v := by intro _; rfl) : PS X (.Assign [.Name y py] (.ListComp elt [⟨.Name x px,iter,[],0⟩] scope pos) spos) (tAsg (tComp wi fv te) (gName j)) := by
  intro pins s σ H D I h
  rw [exec_Assign_Name_used _ _ _ _ hsw]
  refine wpAny_bind (wpAny_standAt (wpAny_bind ?_))
  show wpAny _ _ (do let _ ← comprehension (.ListComp elt [⟨.Name x px,iter,[],0⟩] scope pos) scope X.env _ (newList []) false (eval iter X.env) (some (assign (.Name y py) X.env))) _ _ s
  refine wpAny_bind (wpAny_mono (wpAny_comprehension_free (use := some (assign (.Name y py) X.env)) (Q := fun _ s' => SP X pins D .next s') rfl hs C.clos C.kind C.names
    (wpAny_mono (hi pins s σ H _ I h) (fun v s1 h1 => wpAny_mono h1 (fun itv s2 h2 => ?_) fun _ _ z => z) fun _ _ z => z)) (fun _ s' hq => wpAny_pure (wpAny_pure hq)) fun _ _ z => z)
  obtain ⟨it,fp,tn,J,H2,rfl,I2,T,st2,f2,rd⟩ := h2
  refine blk_run (Qf := fun v H' => gName j v σ H' D.nx) hcalm C I2 T st2 f2 rd (he fp) fun p D' H' s' ns nL nH n0 nC nP I8 q => ?_
  obtain ⟨m,hn⟩ := ns
  show wpAny _ _ (assign (.Name y py) X.env (.ref p)) _ _ _
  refine wpAny_assign_Name (store_ok2 I8 hN hj (.inl hy) (v := .ref p) rfl (fun s9 I9 ⟨a,sb,ha⟩ => ?_) (.inr hy))
  have aD : D' ≠ a := by
    rintro rfl
    rcases ha with z | z
    · exact nL z
    · exact nC y _ z rfl
  exact ⟨m,hn.sameBut sb aD,fun h'' sb2 => ⟨_,H',I9.turned (t' := s9.toks) (fun b o hb e => (sb2.2 b hb).trans e) nH nL (.inr n0) nC nP,q⟩⟩
end
end L2
namespace L2
open PySem PySem.Spec PyProof.Rows
end L2
namespace L2
open PySem PySem.Spec PyProof.Rows
theorem ix_tupK {X : Cx} {K : PySem.W.Frag} (h : X.K = K) : IxR X (rIxT K) := h ▸ ix_tup
end L2
namespace L2
open PySem PySem.Spec PyProof.Rows
theorem comp_list {K : PySem.W.Frag} {a : Addr} {xs : List V} {fv : List (Str × Nat)} {te : TE} {σ : St} {H1 : Hp} {Qp : Hp → Prop} {l : Addr} (Pv : Nat → List V → Hp → Prop) (h0 : Pv 0 [] (upd H1 l (.lst []))) (hp : ∀ i acc H2,i ≤ xs.length → Pv i acc H2 → SqL K H2 a xs ∧ H2 l = some (.lst acc) ∧ acc.length < sizeLine)
    (hs : ∀ i x acc H2 (Kc : VK),xs[i]? = some x → Pv i acc H2 → (∀ y H4,H4 l = some (.lst acc) → Pv (i + 1) (acc ++ [y]) (upd H4 l (.lst (acc ++ [y]))) → Kc y H4) → te (some x :: fvs fv σ) H2 Kc) (hd : ∀ acc H2,Pv xs.length acc H2 → Qp H2) :
    ∃ W : Nat → Nat → List V → Hp → Prop,(∃ m,W 0 m [] (upd H1 l (.lst []))) ∧ ∀ i m acc H2,W i m acc H2 →
      H2 l = some (.lst acc) ∧ acc.length < sizeLine ∧ (((Itl K a).stop i H2 ∧ Qp H2) ∨ ((Itl K a).go i H2 ∧ ∀ x H3,(Itl K a).yld i H2 x H3 → te (some x :: fvs fv σ) H3 fun y H4 => H4 l = some (.lst acc) ∧ ∃ m',m' < m ∧ W (i + 1) m' (acc ++ [y]) (upd H4 l (.lst (acc ++ [y]))))) := by
  refine ⟨fun i m acc H2 => m = xs.length - i ∧ i ≤ xs.length ∧ Pv i acc H2,⟨xs.length,by simp,Nat.zero_le _,h0⟩,?_⟩
  rintro i m acc H2 ⟨rfl,hi,p⟩
  obtain ⟨q1,q2,q3⟩ := hp i acc H2 hi p
  refine ⟨q2,q3,?_⟩
  by_cases hlt : i < xs.length
  · refine .inr ⟨⟨xs,xs[i],q1,List.getElem?_eq_getElem hlt⟩,fun x H3 y => ?_⟩
    obtain ⟨e1,e2⟩ := y
    subst e1
    exact hs i x acc _ _ (e2 xs q1) p fun y H4 z1 z2 => ⟨z1,xs.length - (i + 1),by omega,rfl,hlt,z2⟩
  · have e : i = xs.length := by omega
    subst e
    exact .inl ⟨⟨xs,q1,Nat.le_refl _⟩,hd acc H2 p⟩
end L2
namespace L2
open PySem PySem.Spec PyProof.Rows
theorem val_get {xs : List V} {us : List Value} {j : Nat} (r : Vals xs us) (h : j < us.length) : ∃ a,xs[j]? = some a ∧ RelV a us[j] := by
  have hl := r.length
  have hj : j < xs.length := by omega
  obtain ⟨u,e,q⟩ := r.get (i := j) (x := xs[j]) (List.getElem?_eq_getElem hj)
  rw [List.getElem?_eq_getElem h] at e
  cases e
  exact ⟨xs[j],List.getElem?_eq_getElem hj,q⟩
section
variable {X : Cx} {pins : List (Addr × Obj)} {σ : St} {H : Hp} {s : Shared}
end
end L2
namespace L2
open PySem
theorem Room.units10 {k : Nat} {A : Around} (r : Room k A) : A.units + 10 < cLine := by have := r.un; omega
end L2
namespace L2
open PySem PySem.Spec PyProof.Rows
end L2
namespace Sp3
open PySem PySem.Spec L2 Mth Sp1 Sp2
end Sp3
namespace Sp3
open PySem PySem.Spec L2 Mth Sp1 Sp2
theorem Thing.mono {H H' : Hp} {x : V} (h : Thing H x) (s : Same H H') : Thing H' x := by
  obtain ⟨⟨t,k⟩,pt⟩ := h
  refine ⟨⟨t,k.mono s⟩,fun p xs e1 e2 y hy => ?_⟩
  subst e1
  have e3 : H p = some (.tup xs) := by
    cases k with
    | lst e => rw [s _ _ e] at e2; cases e2
    | tup e => rw [s _ _ e] at e2; cases e2; exact e
    | dict e => rw [s _ _ e] at e2; cases e2
  obtain ⟨t',k'⟩ := pt p xs rfl e3 y hy
  exact ⟨t',k'.mono s⟩
abbrev Crn := List (Addr × Int × Int)
end Sp3
namespace PySem
open Sem (wp)
abbrev Lk {α : Type} (M : Model) (h : Heap) (t : Sem α) (r : α) : Prop := ∀ (A : Around) (Q : α → Shared → Prop) (E : Value → Shared → Prop) (g : Array GenState) (d : Drawn) (tk : Nat) (os : OsState),Q r ⟨h,g,d,tk,os⟩ → wpAny M A t Q E ⟨h,g,d,tk,os⟩
section
variable {prog : Program} {w : World} {A : Around} {E : Value → Shared → Prop} {h : Heap} {g : Array GenState} {d : Drawn} {t : Nat} {os : OsState} {a : Addr} {o : Obj}
  {nm q : Str} {C N : Addr} {bs bm : List Value} {hdct : Bool} {sn : List Str} {sub : List Value} {ab : Bool} {col : Option Bool} {dd : Option Addr} {k0 k1 k2 k3 k5 : Option Value} {newId : String}
theorem class_get_exc {R : Result → Shared → Prop} (atC : h.get? C = some (excClassObj nm q C N bs bm hdct sn sub ab col dd k0 k1 k2 k3 k5 newId)) (hO : bm.contains (.type "object") = true)
    (atE : h.get? a = some o) (clE : o.cls = .ref C) (fin : R (.ok (.ret (.ref C))) ⟨h,g,d,t,os⟩) :
    codeAny (model prog w) A (.call (.builtin "getset_descriptor.__get__") ⟨[.builtin "object.__class__",.ref a,.ref C],[]⟩) R ⟨h,g,d,t,os⟩ := by
  have tg : (⟨h,g,d,t,os⟩ : Shared).TypeIs (.builtin "object.__class__") "getset_descriptor" := F.typeOf_object_class
  have e0 : (".".intercalate ("object.__class__".cutAt '.').dropLast) = "object" := by
    have e0 : "object.__class__".cutAt '.' = ["object","__class__"] := by first | rfl | decide +kernel
    rw [e0]; decide +kernel
  have cont : (Value.ref C :: bm).contains (.type (".".intercalate ("object.__class__".cutAt '.').dropLast)) = true := by
    rw [e0,List.contains_cons,hO,Bool.or_true]
  refine codeAny_call_builtin F.slot_gs_get.plain F.entry_gs_get (F.slot_gs_get.check _ _ _ _ _ _ _ _ tg (F.args_gs_get _ _ _) ?_)
  repeat (any_goals (first | assumption | (with_reducible refine wpAny_loadPart_at atE ?_; rw [clE]) | (with_reducible refine wpAny_isSubtype_exc atC ?_; rw [cont]) | wp_step))
  refine ⟨Code.quiet_builtin _ (by decide +kernel),codeAny_builtin F.entry_object_class ?_⟩
  repeat (any_goals (first | assumption | (with_reducible refine wpAny_loadPart_at atE ?_; rw [clE]) | wp_step))
theorem check_ga_exc {M : Model} {nameV : Value} {Q : Unit → Shared → Prop} (atC : h.get? C = some (excClassObj nm q C N bs bm hdct sn sub ab col dd k0 k1 k2 k3 k5 newId)) (hB : bm.contains (.type "BaseException") = true)
    (atE : h.get? a = some o) (clE : o.cls = .ref C) (fin : Q () ⟨h,g,d,t,os⟩) : wpAny M A (checkBuiltinCall "BaseException.__getattribute__" ⟨[.ref a,nameV],[]⟩) Q E ⟨h,g,d,t,os⟩ := by
  have kd : builtinKind "BaseException.__getattribute__" = some .slot := by decide +kernel
  have spl : splitId "BaseException.__getattribute__" = some ("BaseException","__getattribute__") := by decide +kernel
  have cont : (Value.ref C :: bm).contains (.type "BaseException") = true := by rw [List.contains_cons,hB,Bool.or_true]
  have okA := F.args_bexc_ga (.ref a) nameV
  simp only [checkBuiltinCall,kd,spl]
  refine wpAny_bind ?_
  · unfold isInstance
    repeat (first | (with_reducible refine wpAny_loadPart_at atE ?_; rw [clE]) | (with_reducible refine wpAny_isSubtype_exc atC ?_; rw [cont]) | wp_step)
    exact fin
theorem class_entry_exc {tk : Tok} {Q : Fin → Shared → Prop} (atC : h.get? C = some (excClassObj nm q C N bs bm hdct sn sub ab col dd k0 k1 k2 k3 k5 newId)) (hO : bm.contains (.type "object") = true)
    (lc : Lk (model prog w) h (typeLookup (.ref C) "__class__") (some (.builtin "object.__class__"))) (atE : h.get? a = some o) (clE : o.cls = .ref C) (fin : Q (.done (.ret (.ref C))) ⟨h,g,d,t,os⟩) :
    wpAny (model prog w) A (Builtin.«object.__getattribute__» ⟨[.ref a,.str "__class__" tk],[]⟩) Q E ⟨h,g,d,t,os⟩ := by
  have tg : (⟨h,g,d,t,os⟩ : Shared).TypeIs (.builtin "object.__class__") "getset_descriptor" := F.typeOf_object_class
  have tyC := F.typeOf_object_class
  have getL := F.slot_gs_get.lookup
  have setL := F.slot_gs_set.lookup
  repeat (any_goals (first | assumption | (with_reducible refine wpAny_loadPart_at atE ?_; rw [clE]) | with_reducible refine lc _ _ _ _ _ _ _ ?_ | wp_step))
  refine class_get_exc atC hO atE clE ?_
  repeat (any_goals (first | assumption | wp_step))
theorem class_by_exc {tk : Tok} {Q : Value → Shared → Prop} (atC : h.get? C = some (excClassObj nm q C N bs bm hdct sn sub ab col dd k0 k1 k2 k3 k5 newId)) (hO : bm.contains (.type "object") = true) (hB : bm.contains (.type "BaseException") = true)
    (lc : Lk (model prog w) h (typeLookup (.ref C) "__class__") (some (.builtin "object.__class__"))) (lg : Lk (model prog w) h (typeLookup (.ref C) "__getattribute__") (some (.builtin "BaseException.__getattribute__"))) (ln : Lk (model prog w) h (typeLookup (.ref C) "__getattr__") none)
    (atE : h.get? a = some o) (clE : o.cls = .ref C) (fin : Q (.ref C) ⟨h,g,d,t,os⟩) :
    wpAny (model prog w) A (getAttrBy (.ref a) (.str "__class__" tk) false) Q E ⟨h,g,d,t,os⟩ := by
  have bnd := F.excAttr_ValueError.ga.bind (.ref a)
  have nh2 : (Value.builtin "BaseException.__getattribute__" == Value.builtin "object.__getattribute__") = false := by decide +kernel
  have nh1 : (onTheHeap (Value.ref C) && Value.builtin "BaseException.__getattribute__" == Value.builtin "object.__getattribute__") = false := by rw [nh2]; rfl
  repeat (any_goals (first | assumption | (with_reducible refine wpAny_loadPart_at atE ?_; rw [clE]) | with_reducible refine lg _ _ _ _ _ _ _ ?_ | with_reducible refine ln _ _ _ _ _ _ _ ?_ | wp_step))
  refine codeAny_call_builtin F.excAttr_ValueError.ga.plain F.entry_bexc_ga (check_ga_exc atC hB atE clE (class_entry_exc atC hO lc atE clE ?_))
  repeat (any_goals (first | assumption | wp_step))
theorem class_attr_exc {Q : Option Value → Shared → Prop} (atC : h.get? C = some (excClassObj nm q C N bs bm hdct sn sub ab col dd k0 k1 k2 k3 k5 newId)) (hO : bm.contains (.type "object") = true) (hB : bm.contains (.type "BaseException") = true)
    (lc : Lk (model prog w) h (typeLookup (.ref C) "__class__") (some (.builtin "object.__class__"))) (lg : Lk (model prog w) h (typeLookup (.ref C) "__getattribute__") (some (.builtin "BaseException.__getattribute__"))) (ln : Lk (model prog w) h (typeLookup (.ref C) "__getattr__") none)
    (atE : h.get? a = some o) (clE : o.cls = .ref C) (fin : Q (some (.ref C)) ⟨h,g,d,t + 1,os⟩) :
    wpAny (model prog w) A (getAttr? (.ref a) "__class__") Q E ⟨h,g,d,t,os⟩ := by
  unfold getAttr?
  repeat (any_goals (first | assumption | with_reducible refine class_by_exc atC hO hB lc lg ln atE clE ?_ | wp_step))
end
end PySem
namespace L2
open PySem PySem.Spec PyProof.Rows
def excO (C a : Addr) : HO := .ext fun h => ∃ o,h.get? a = some o ∧ o.cls = .ref C
theorem excO_ok {P : Program} {w : World} {H : Hp} {h : Heap} {a C : Addr} (e : ∃ o,h.get? a = some o ∧ o.cls = .ref C) : ObjOk P w H h a (excO C a) :=
  ⟨e,let ⟨o,e1,_⟩ := e; ⟨o,e1⟩,fun _ _ ⟨o,e1,e2⟩ k => ⟨o,k o e1,e2⟩⟩
structure ExcF (K : PySem.W.Frag) (C : Addr) : Prop where
  ga : PySem.W.findIn K (.ref C) "__getattribute__" = some (some (.builtin "BaseException.__getattribute__"))
  gn : PySem.W.findIn K (.ref C) "__getattr__" = some none
  cl : PySem.W.findIn K (.ref C) "__class__" = some (some (.builtin "object.__class__"))
theorem lk_of {K : PySem.W.Frag} {M : Model} {h : Heap} {C : Addr} {n : Str} {r : Option Value} (X : K.In h) (e : PySem.W.findIn K (.ref C) n = some r) : Lk M h (typeLookup (.ref C) n) r :=
  fun _ _ _ _ _ _ _ q => (PySem.W.looks_findIn X e).here q
theorem kitx_exc {K : PySem.W.Frag} {mg : Str → Option Value} {n : Str} {C a : Addr} (O : ExcC K mg n C) (f : ExcF K C) : PySem.W.KitX K (.ref a) (.ref C) (fun h => ∃ o,h.get? a = some o ∧ o.cls = .ref C) where
  ty := fun M h _ p => by
    obtain ⟨o,e1,e2⟩ := p
    exact e2 ▸ (PySem.W.Looks.ld e1).andThen .now
  it := fun M h X _ => by
    obtain ⟨bm,N',nm,qn,bs,hd,sn,sub,ab,col,dd,k0,k1,k2,k3,k5,mN,atC,_⟩ := O.obj h X
    intro A' Q' E' s' k q
    unfold isType loadHead
    exact wpAny_bind (wpAny_loadPart (k _ _ atC) (wpAny_pure q))
  ne := fun h tp dd' its n' sl X htp => by
    obtain ⟨bm,N',nm,qn,bs,hd,sn,sub,ab,col,dd,k0,k1,k2,k3,k5,mN,atC,_⟩ := O.obj h X
    refine Bool.eq_false_iff.mpr fun q => ?_
    cases Value.ref.inj (beq_iff_eq.mp q)
    rw [atC] at htp
    have z := congrArg Obj.cls (Option.some.inj htp)
    exact absurd (Value.type.inj z) (by decide)
  ca := fun {prog w A E Q s} X p k => by
    obtain ⟨h,g,d,t,os⟩ := s
    obtain ⟨o,e1,e2⟩ := p
    obtain ⟨bm,N',nm,qn,bs,hd,sn,sub,ab,col,dd,k0,k1,k2,k3,k5,mN,atC,_,_,T⟩ := O.obj h X
    exact class_attr_exc atC (T.hasType (by decide +kernel)) (T.hasType (by decide +kernel)) (lk_of X f.cl) (lk_of X f.ga) (lk_of X f.gn) e1 e2 k
section
variable {X : Cx}
inductive rIsE (K : PySem.W.Frag) (C : Addr) (xs : List V) (H : Hp) (Q : VK) : Prop
  | mk : ∀ (a : Addr) (v : V) (b : Bool),(xs = [.ref a,v]) → (H a = some (excO C a)) → (((∃ D,v = .ref D ∧ PySem.W.kitOne K (.ref C) (.ref D) = some b) ∨ (∃ T,v = .ty T ∧ PySem.W.kitOne K (.ref C) (.type T) = some b) ∨ (∃ (p : Addr) (ds : List Addr),v = .ref p ∧ H p = some (.tup (ds.map V.ref)) ∧ PySem.W.kitAny K (.ref C) (ds.map Value.ref) = some b))) → (Q (.bl b) H) → rIsE K C xs H Q
theorem vals_refs : ∀ {ds : List Addr} {us : List Value},Vals (ds.map V.ref) us → us = ds.map Value.ref
  | [],us,r => by cases r; rfl
  | d :: ds,us,r => by
    cases r with
    | cons h t =>
      rw [vals_refs t]
      cases h
      rfl
theorem call_isexc {n : Str} {C : Addr} (O : ExcC X.K X.mg n C) (f : ExcF X.K C) : CallR X (.builtin "isinstance") (rIsE X.K C) := by
  intro pins s σ H xs us Q I rs h
  obtain ⟨a,v,b,rfl,ea,hv,q⟩ := h
  obtain ⟨u,u',rfl,ru,rv⟩ := vals2 rs
  cases ru
  have p : ∃ o,s.heap.get? a = some o ∧ o.cls = .ref C := (show ObjOk X.prog X.w H s.heap a (excO C a) from I.hok a _ ea).1
  rcases hv with ⟨D,rfl,e⟩ | ⟨T,rfl,e⟩ | ⟨p',ds,rfl,et,e⟩
  · cases rv
    exact PySem.W.kia_one (kitx_exc O f) I.kIn p e (by intro z; cases z) fun tk => ⟨.bl _,H,I.tok _,rfl,q⟩
  · cases (show u' = Value.type T from rv)
    exact PySem.W.kia_one (kitx_exc O f) I.kIn p e (by intro z; cases z) fun tk => ⟨.bl _,H,I.tok _,rfl,q⟩
  · cases rv
    obtain ⟨_,its,rv',⟨oc,odi,oda,osl⟩,eo,ec,nn,ed⟩ := I.hok _ _ et
    dsimp only at ec ed
    subst ec ed
    cases vals_refs rv'
    exact PySem.W.kia_tup (kitx_exc O f) I.kIn p eo e (by intro z; cases z) fun tk => ⟨.bl _,H,I.tok _,rfl,q⟩
end
section
variable {X : Cx} {pins : List (Addr × Obj)} {σ : St} {H : Hp} {s : Shared}
theorem Inv.track {a : Addr} {o : HO} (I : Inv X pins σ H s) (hn : H a = none) (h0 : X.s₀.heap.get? a = none) (hl : a ≠ X.env.locals) (hc : ∀ x c,X.env.cells.lookup x = some c → c ≠ a) (hp : ∀ p ∈ X.pn ++ pins,p.1 ≠ a)
    (ho : ObjOk X.prog X.w (upd H a o) s.heap a o) : Inv X pins σ (upd H a o) s where
  ok := I.ok
  os := I.os
  bare := I.bare
  base := {
    keep := I.base.keep
    slot := I.base.slot
    free := fun b ob e n hx => by
      rw [upd_ne (fun z => by subst z; rw [h0] at e; cases e)]
      exact I.base.free b ob e n hx
    there := I.base.there
    tups := fun b xs q => by
      have z := I.base.tups b xs q
      rw [upd_ne (ne_of_none z hn)]
      exact z
    frzs := fun b ob u q => by
      have z := I.base.frzs b ob u q
      rw [upd_ne (ne_of_none z hn)]
      exact z
    tbls := fun b ps q => by
      obtain ⟨m,z⟩ := I.base.tbls b ps q
      exact ⟨m,by rw [upd_ne (ne_of_none z hn)]; exact z⟩ }
  loc := I.loc
  cell := I.cell
  free := by rw [upd_ne (Ne.symm hl)]; exact I.free
  freeC := fun x c e => by rw [upd_ne (hc x c e)]; exact I.freeC x c e
  pin := fun p m => by
    obtain ⟨p1,p2,p3⟩ := I.pin p m
    exact ⟨p1,by rw [upd_ne (hp p m)]; exact p2,p3⟩
  hok := fun b u q => by
    by_cases hb : b = a
    · subst hb
      rw [upd_same] at q
      cases q
      exact ho
    · rw [upd_ne hb] at q
      exact (I.hok b u q).stay (fun _ _ _ r => r) (fun c r => by rw [upd_ne (ne_of_none r hn)]; exact r) fun c xs r => by rw [upd_ne (ne_of_none r hn)]; exact r
  len := I.len
theorem goes_ok {M : Model} {A : Around} {E : Value → Shared → Prop} {i : Nat} {x : Str} {pos : Pos} {Q : Unit → Shared → Prop} (I : Inv X pins σ H s) (hN : X.N.Nodup) (hi : X.N[i]? = some x) (hk : X.env.kindOf x = some .local)
    (h : ∀ s',Inv X pins (σ.set i none) H s' → Q () s') : wpAny M A (do bindName X.env x .none; unbindBehindTheSuite X.env x pos) Q E s := by
  obtain ⟨m,hn,hl⟩ := id I.loc
  have plain : (X.env.scope.kind == .class || (X.env.scope.kind == .module && X.env.locals != X.env.globals)) = false := by rw [I.ok.kind]; rfl
  have iσ : i < σ.length := by rw [I.len]; exact (List.getElem?_eq_some_iff.mp hi).1
  have cne := I.cne
  refine wpAny_nameGoes_keeps hk hn plain (fun h' v hn' sb => ?_)
  have far : ∀ {b : Addr} {o : Obj},X.s₀.heap.get? b = some o → b ≠ X.env.locals := fun e => Nat.ne_of_lt (Nat.lt_of_lt_of_le (Heap.lt_size e) I.ok.above)
  refine h _ ⟨I.ok,I.os,I.bare,⟨fun b o e n hb hx => (sb.2 b (far e)).trans (I.base.keep b o e n hb hx),fun b o e n hb hx => ?_,I.base.free,fun b o e hx => ?_,I.base.tups,I.base.frzs,I.base.tbls⟩,⟨_,hn',fun j y v' e1 e2 e3 => ?_⟩,fun y c e => ?_,I.free,I.freeC,fun p hp => ?_,fun b ob e => ?_,by simpa using I.len⟩
  · obtain ⟨sl,z⟩ := I.base.slot b o e n hb hx
    exact ⟨sl,(sb.2 b (far e)).trans z⟩
  · obtain ⟨o',z⟩ := I.base.there b o e hx
    exact ⟨o',(sb.2 b (far e)).trans z⟩
  · by_cases hj : j = i
    · subst hj
      rw [List.getElem?_set_self iσ] at e2
      cases e2
    · rw [List.getElem?_set_ne (Ne.symm hj)] at e2
      obtain ⟨u',r',q⟩ := hl j y v' e1 e2 e3
      refine ⟨u',r',?_⟩
      rcases q with ⟨k,e⟩ | ⟨k,c,e,z⟩
      · have ny : y ≠ x := fun e => hj (nodup_ix hN e1 (e ▸ hi))
        exact .inl ⟨k,by simp [ny,e]⟩
      · exact .inr ⟨k,c,e,z.sameBut sb (cne y c e)⟩
  · obtain ⟨w',z⟩ := I.cell y c e
    exact ⟨w',z.sameBut sb (cne y c e)⟩
  · obtain ⟨e,n,ne,nf,d⟩ := I.pin p hp
    exact ⟨(sb.2 p.1 ne).trans e,n,ne,nf,d⟩
  · refine (I.hok b ob e).stay (fun c w' hc q => (sb.2 c ?_).trans q) (fun _ q => q) fun _ _ q => q
    rintro rfl
    rcases hc with rfl | hc
    · rw [I.free] at e
      cases e
    · rw [I.free] at hc
      cases hc
end
def Ends.drop (D : Ends) (i : Nat) : Ends := { nx := fun σ H => D.nx (σ.set i none) H,rt := D.rt,bk := fun σ H => D.bk (σ.set i none) H,ct := fun σ H => D.ct (σ.set i none) H }
section
variable {X : Cx}
theorem caught_as {pins : List (Addr × Obj)} {σ : St} {H : Hp} {s s' : Shared} {E1 : XK} {ev : Value} {x en : Str} {B C : Addr} {np pos : Pos} {b₀ : Stmt} {suite : List Stmt} {rest : List ExceptHandler} {D : Ends} {th : TS} {Ex : Value → Shared → Prop} {i : Nat}
    (I : Inv X pins σ H s) (stk : X.stack = X.env :: X.outer) (hf : X.env.frame = some X.env.locals) (O : ExcC X.K X.mg x B) (hg : Gl X x) (hm : PySem.W.exmOne X.K (.ref C) (.ref B) = some true) (hex : X.ex = []) (hN : X.N.Nodup) (hi : X.N[i]? = some en) (hk : X.env.kindOf en = some .local) (h : CXE X.prog X.w X.stack H s E1 ev s')
    (hE : ∀ c o H',E1 c o H' → c = .ref C ∧ ∀ e : Addr,H' e = none → th (D.drop i) (σ.set i (some (.ref e))) (upd H' e (excO C e))) (hb : ∀ e : Addr,PSs (X.inH e) (b₀ :: suite) th) (hdb : (x == ("__debug__" : Str)) = false := by decide) :
    wpAny (model X.prog X.w) X.A (noteFrame ev X.env) (fun _ s₂ => wpAny (model X.prog X.w) X.A (setFlight ev none) (fun _ s₃ =>
      wpAny (model X.prog X.w) X.A (handleBy ev X.env (.ExceptHandler (some (.Name x np)) (some en) (b₀ :: suite) pos :: rest)) (SP X pins D) Ex s₃) Ex s₂) Ex s' := by
  obtain ⟨ea,t,cls,H',B',rfl,os,bare,un,hok,fl,big,q⟩ := h
  obtain ⟨rfl,rd⟩ := hE _ _ _ q
  have hfr := I.ok.frames
  rw [stk] at hfr
  have fr : ∀ b ∈ frs X.stack,H b = none ∧ ∀ o,s'.heap.get? b = some o → ∀ vs,o.data ≠ .fields vs := fun b hb => ⟨I.stkFree b hb,fun o eo => by
    obtain ⟨_,o',eo',nf⟩ := fl.2.2.1.mem hb
    rw [eo] at eo'
    cases eo'
    exact nf⟩
  have J : ∀ h2 : Heap,B'.StaysIn h2 → s'.heap.UpToSlots h2 → Inv X pins σ H' { s' with heap := h2 } := fun h2 st2 sl =>
    I.call' (s' := { s' with heap := h2 }) (ch := []) os (Un.fly un big fl.1 st2 sl fr) (HOk.fly hok big fl.1 st2) bare fun b z => absurd z (by simp)
  have hn : H' ea = none := by
    cases hz : H' ea with
    | none => rfl
    | some o =>
      obtain ⟨ob,e⟩ := big.tr ea o hz
      rw [fl.2.1] at e
      cases e
  have new : ∀ b o,s.heap.get? b = some o → b ≠ ea := fun b o e z => by
    subst z
    by_cases hb : b ∈ frs X.stack
    · obtain ⟨_,o',eo',nf⟩ := fl.2.2.1.mem hb
      obtain ⟨oe',vs,e1,_,e2,_⟩ := fl.first
      rw [eo'] at e1
      cases e1
      exact nf vs e2
    · obtain ⟨ob,e1⟩ := big.old b o e hb
      rw [fl.2.1] at e1
      cases e1
  have fl0 := fl
  rw [stk] at fl0
  refine wpAny_looks_onW (L := X.env.locals) hfr hf fl0 fun h4 hheld up4 => ?_
  refine wpAny_landsW hheld fun h5 fl5 up5 => ?_
  have up45 := up4.trans up5
  have I5 := (J h5 fl5.1 up45).inH ea
  obtain ⟨oe,he,hc⟩ := fl5.there
  refine wpAny_handleBy_cons (codeAny_handlers_test (ld_glob I5 hg O.bound ?_ hdb)) (by intro z; cases z)
  have LT : PySem.W.Looks (model X.prog X.w) h5 (typeOf (.ref ea)) (.ref C) := hc ▸ (PySem.W.Looks.ld he).andThen .now
  refine (PySem.W.exm_one I5.kIn LT hm).here (codeAny_handlers_suite_as ?_)
  refine lands_againW fl5 fun h6 fl6 up6 => ?_
  have I6 := (J h6 fl6.1 (up45.trans up6)).inH ea
  have I7 := I6.track (a := ea) (o := excO C ea) hn (by
    cases hz : X.s₀.heap.get? ea with
    | none => rfl
    | some o =>
      obtain ⟨o',e⟩ := I.base.there ea o hz (by rw [hex]; exact List.not_mem_nil)
      exact absurd rfl (new ea o' e)) (fun z => by
    obtain ⟨m,⟨o',_,_,e,_⟩,_⟩ := I.loc
    exact new _ o' e z.symm) (fun y c e z => by
    obtain ⟨v,o',e',_⟩ := I.cell y c e
    exact new _ o' e' z) (fun p hp z => new _ _ (I.pin p hp).1 z) (excO_ok fl6.there)
  refine store_ok (X := X.inH ea) I7 hN hi (.inl hk) (show RelV (.ref ea) (.ref ea) from rfl) (fun s8 I8 => ?_) (.inr hk)
  refine wpAny_mono (hb ea pins _ _ _ (D.drop i) I8 (rd ea hn)) (fun f s9 z => ?_) fun _ _ z => False.elim z
  cases f with
  | next =>
    obtain ⟨σ',H2,I9,q9⟩ := z
    exact goes_ok (I9.outH I.ok) hN hi hk fun s10 I10 => ⟨_,_,I10,q9⟩
  | brk =>
    obtain ⟨σ',H2,I9,q9⟩ := z
    exact goes_ok (I9.outH I.ok) hN hi hk fun s10 I10 => ⟨_,_,I10,q9⟩
  | cont =>
    obtain ⟨σ',H2,I9,q9⟩ := z
    exact goes_ok (I9.outH I.ok) hN hi hk fun s10 I10 => ⟨_,_,I10,q9⟩
  | ret u =>
    obtain ⟨v,σ',H2,I9,r,q9⟩ := z
    exact goes_ok (I9.outH I.ok) hN hi hk fun s10 I10 => ⟨v,_,_,I10,r,q9⟩
end
end L2
namespace Sp8
open PySem PySem.Spec L2 Mth Sp1 Sp2 Sp3
end Sp8
namespace L2
open PySem PySem.Spec PyProof.Rows
theorem px_if {X : Cx} {c : Expr} {a b : List Stmt} {tc : TT} {ta tb : TX} {pos : Pos} (hc : PT X.nox c tc) (ha : PXs X a ta) (hb : PXs X b tb) : PX X (.If c a b pos) (fun R D σ H => tc σ H fun d H1 => if d = true then ta R D σ H1 else tb R D σ H1) := by
  intro pins s σ H D R I h
  refine wpAny_If (wpAny_mono (hc pins s σ H _ (I.wish _) h) (fun d s1 ⟨H1,I1,q1⟩ => ?_) fun _ _ z => False.elim z)
  cases d with
  | true => exact ha pins s1 σ H1 D R I1.unwish q1
  | false => exact hb pins s1 σ H1 D R I1.unwish q1
theorem bt_ValueError : bootBuiltins "ValueError" = some (.type "ValueError") := by decide +kernel
end L2
namespace Sp24
open PySem PySem.Spec L2 Mth Sp1 Sp2 Sp3 Sp8
end Sp24
namespace L2
open PySem PySem.Spec PyProof.Rows
theorem bt_all : bootBuiltins "all" = some (.builtin "all") := by decide +kernel
theorem bl_at {bs : List Bool} {us : List Value} {i : Nat} {v : Value} (r : Vals (bs.map V.bl) us) (h : us[i]? = some v) : ∃ b,bs[i]? = some b ∧ v = .bool b := by
  have hl := r.length
  rw [List.length_map] at hl
  have hi : i < us.length := (List.getElem?_eq_some_iff.mp h).1
  have hj : i < bs.length := by omega
  obtain ⟨u,e,q⟩ := r.get (i := i) (x := .bl bs[i]) (by rw [List.getElem?_map,List.getElem?_eq_getElem hj]; rfl)
  rw [h] at e
  cases e
  exact ⟨bs[i],List.getElem?_eq_getElem hj,q⟩
theorem all_range (bs : List Bool) : ((List.range bs.length).all fun i => (bs[i]?).getD true) = bs.all id := by
  rw [Bool.eq_iff_iff]
  simp only [List.all_eq_true,List.mem_range,id]
  constructor
  · intro h b hb
    obtain ⟨i,hi,rfl⟩ := List.mem_iff_getElem.mp hb
    have z := h i hi
    rw [List.getElem?_eq_getElem hi] at z
    exact z
  · intro h i hi
    rw [List.getElem?_eq_getElem hi]
    exact h _ (List.getElem_mem hi)
theorem call_all {X : Cx} (hc : X.calm = true) : CallR X (.builtin "all") (fun xs H Q => ∃ (p : Addr) (bs : List Bool),xs = [.ref p] ∧ SqL X.K H p (bs.map V.bl) ∧ Q (.bl (bs.all id)) H) := by
  intro pins s σ H xs us Q I r h
  obtain ⟨p,bs,rfl,hq,q⟩ := h
  obtain ⟨u,rfl,rx⟩ := vals1 r
  cases rx
  obtain ⟨its,rv,pl,_⟩ := I.list hq
  have hl := pl.isList
  have lt : p < s.heap.objs.size := by
    obtain ⟨_,e,_⟩ := hl
    exact Heap.lt_size e
  refine call_all_walk (wpAny_pyIter_list hl ?_)
  refine ⟨s.heap.objs.size,[s.heap.objs.size,p],[s.heap.objs.size],its.toArray.size,_,_,fun i => (bs[i]?).getD true,rfl,Walks.list (A := X.A.in1) (I.ok.hd hc) _ p (Nat.ne_of_lt lt) its.toArray,?_⟩
  refine ⟨⟨⟨_,Heap.get?_push_size _ rfl,rfl,rfl⟩,hl.push _⟩,fun i v s' Q' E' hP hQ => ?_,fun h' tk hk => ?_⟩
  · obtain ⟨b,e,rfl⟩ := bl_at rv (by simpa using hP)
    simp only [e,Option.getD_some] at hQ
    exact wpAny_truthy_bool hQ
  · have el : its.toArray.size = bs.length := by
      have := rv.length
      rw [List.length_map] at this
      rw [List.size_toArray]
      omega
    rw [el,all_range]
    refine ⟨.bl _,H,I.kept (t' := tk) fun b o e => ?_,rfl,q⟩
    exact hk b o (fun hm => by rw [List.mem_singleton.mp hm] at e; exact Nat.lt_irrefl _ (Heap.lt_size e)) (Heap.get?_push_of_some _ e)
end L2
namespace Sp7
open PySem PySem.Spec L2 Mth Sp1 Sp2 Sp3
def larg : Int := 999999999999
def smallV : V → Bool
  | .int a => decide (-larg ≤ a) && decide (a ≤ larg)
  | _ => false
def cornL : List V → Bool
  | [y,z] => smallV y && smallV z
  | _ => false
def cornV (H : Hp) : V → Bool
  | .ref p => match H p with
    | some (.tup xs) => cornL xs
    | _ => false
  | _ => false
def lineL (H : Hp) (xs : List V) : Bool := (decide ((1 : Int) ≤ (xs.length : Int)) && decide ((xs.length : Int) ≤ 10)) && xs.all (cornV H)
def lineV (H : Hp) : V → Bool
  | .ref p => match H p with
    | some (.lst xs) => lineL H xs
    | _ => false
  | _ => false
structure LTh (H : Hp) (v : V) : Prop where
  kn : ∃ t,Kn H v t
  parts : ∀ p xs,v = .ref p → H p = some (.lst xs) → xs.length ≤ 100 ∧ ∀ y ∈ xs,Thing H y
theorem cornV_tup {H : Hp} {p : Addr} {xs : List V} (e : H p = some (.tup xs)) : cornV H (.ref p) = cornL xs := by simp only [cornV,e]
theorem cornV_same {H H' : Hp} {x : V} {k : String} (kn : Kn H x k) (s : Same H H') : cornV H' x = cornV H x := by
  cases kn with
  | non => rfl
  | bl b => rfl
  | int i => rfl
  | str x => rfl
  | lst e => simp only [cornV,e,s _ _ e]
  | tup e => simp only [cornV,e,s _ _ e]
  | dict e => simp only [cornV,e,s _ _ e]
theorem cornL_len {xs : List V} (h : xs.length ≠ 2) : cornL xs = false := by
  unfold cornL
  split
  · exact absurd rfl h
  · rfl
theorem smallV_no {v : V} (h : ∀ a,v ≠ .int a) : smallV v = false := by
  unfold smallV
  split
  · exact absurd rfl (h _)
  · rfl
theorem lineV_lst {H : Hp} {p : Addr} {xs : List V} (e : H p = some (.lst xs)) : lineV H (.ref p) = lineL H xs := by simp only [lineV,e]
theorem Kn.cases_lst {H : Hp} {y : V} {t : String} (k : Kn H y t) : (∃ p xs,y = .ref p ∧ H p = some (.lst xs) ∧ t = "list") ∨ (lineV H y = false ∧ isSub t "list" = false) := by
  cases k with
  | lst e => exact .inl ⟨_,_,rfl,e,rfl⟩
  | non => exact .inr ⟨rfl,by decide⟩
  | bl b => exact .inr ⟨rfl,by decide⟩
  | str x => exact .inr ⟨rfl,by decide⟩
  | int a => exact .inr ⟨rfl,by decide⟩
  | tup e => exact .inr ⟨by simp only [lineV,e],by decide⟩
  | dict e => exact .inr ⟨by simp only [lineV,e],by decide⟩
theorem Kn.cases_tp {H : Hp} {y : V} {t : String} (k : Kn H y t) : (∃ p xs,y = .ref p ∧ H p = some (.tup xs) ∧ t = "tuple") ∨ (cornV H y = false ∧ isSub t "tuple" = false) := by
  cases k with
  | tup e => exact .inl ⟨_,_,rfl,e,rfl⟩
  | non => exact .inr ⟨rfl,by decide⟩
  | bl b => exact .inr ⟨rfl,by decide⟩
  | str x => exact .inr ⟨rfl,by decide⟩
  | int a => exact .inr ⟨rfl,by decide⟩
  | lst e => exact .inr ⟨by simp only [cornV,e],by decide⟩
  | dict e => exact .inr ⟨by simp only [cornV,e],by decide⟩
theorem bad_line {H : Hp} {p : Addr} {xs : List V} {c : V} (e : H p = some (.lst xs)) (hc : c ∈ xs) (h : cornV H c = false) : lineV H (.ref p) = false := by
  rw [lineV_lst e]
  unfold lineL
  have z : xs.all (cornV H) = false := by
    rw [Bool.eq_false_iff]
    intro y
    rw [List.all_eq_true] at y
    rw [y c hc] at h
    cases h
  rw [z,Bool.and_false]
def Sm (x : Int) : Prop := -larg ≤ x ∧ x ≤ larg
structure LineM (H : Hp) (l : Addr) (qs : Crn) : Prop where
  lst : H l = some (.lst (qs.map fun q => V.ref q.1))
  crn : ∀ q ∈ qs,H q.1 = some (.tup [.int q.2.1,.int q.2.2]) ∧ Sm q.2.1 ∧ Sm q.2.2
theorem sm_bits {x : Int} (h : Sm x) : bits x ≤ 50 := by
  obtain ⟨a,b⟩ := h
  unfold larg at a b
  refine bits_of (n := 50) ?_
  show _ < 1125899906842624
  omega
structure LineS (H : Hp) (l : Addr) (qs : Crn) : Prop where
  at_ : LineAt H l qs
  sml : ∀ q ∈ qs,(-larg ≤ q.2.1 ∧ q.2.1 ≤ larg) ∧ (-larg ≤ q.2.2 ∧ q.2.2 ≤ larg)
  len : 1 ≤ qs.length ∧ qs.length ≤ 10
theorem LineM.s {H : Hp} {l : Addr} {qs : Crn} (L : LineM H l qs) (h1 : 1 ≤ qs.length) (h2 : qs.length ≤ 10) : LineS H l qs := ⟨⟨L.lst,fun q h => ⟨(L.crn q h).1,sm_bits (L.crn q h).2.1,sm_bits (L.crn q h).2.2⟩⟩,fun q h => (L.crn q h).2,h1,h2⟩
theorem LineS.mono {H H' : Hp} {l : Addr} {qs : Crn} (L : LineS H l qs) (s : Same H H') : LineS H' l qs := ⟨L.at_.mono s,L.sml,L.len⟩
inductive spSmall (vs : List V) (H : Hp) (Q : VK) (x_3 : XK) : Prop
  | mk : ∀ x t,(vs = [x]) → (Kn H x t) → (Q (.bl (smallV x)) H) → spSmall vs H Q x_3
inductive spCorner (vs : List V) (H : Hp) (Q : VK) (x_3 : XK) : Prop
  | mk : ∀ x,(vs = [x]) → (Thing H x) → (Q (.bl (cornV H x)) H) → spCorner vs H Q x_3
inductive spIsLine (vs : List V) (H : Hp) (Q : VK) (x_3 : XK) : Prop
  | mk : ∀ x,(vs = [x]) → (LTh H x) → (∀ H',Same H H' → Q (.bl (lineV H x)) H') → spIsLine vs H Q x_3
inductive spLineOf (C : Addr) (vs : List V) (H : Hp) (Q : VK) (E : XK) : Prop
  | mk : ∀ x,(vs = [x]) → (LTh H x) → (((lineV H x = false ∧ ∀ H',Same H H' → E (.ref C) none H') ∨
  (∃ p qs,x = .ref p ∧ LineS H p qs ∧ ∀ (r : Addr) (rs : Crn) (H' : Hp),H r = none → (∀ z ∈ rs,H z.1 = none) → rs.map (·.2) = qs.map (·.2) → LineAt H' r rs → Same H H' → Q (.ref r) H'))) → spLineOf C vs H Q E
theorem LineS.good {H : Hp} {l : Addr} {qs : Crn} (L : LineS H l qs) : lineV H (.ref l) = true := by
  rw [lineV_lst L.at_.lst]
  unfold lineL
  have hl : (qs.map fun (q : Addr × Int × Int) => V.ref q.1).length = qs.length := List.length_map _
  have h1 := L.len
  rw [hl,decide_eq_true (by omega : (1 : Int) ≤ (qs.length : Int)),decide_eq_true (by omega : (qs.length : Int) ≤ 10)]
  show (qs.map _).all (cornV H) = true
  rw [List.all_eq_true]
  intro v hv
  obtain ⟨q,hq,rfl⟩ := List.mem_map.mp hv
  rw [cornV_tup (L.at_.crn q hq).1]
  show (smallV (.int q.2.1) && smallV (.int q.2.2)) = true
  obtain ⟨⟨a,b⟩,c,d⟩ := L.sml q hq
  simp only [smallV,decide_eq_true a,decide_eq_true b,decide_eq_true c,decide_eq_true d,Bool.and_self]
theorem LineS.th {H : Hp} {l : Addr} {qs : Crn} (L : LineS H l qs) : LTh H (.ref l) := by
  refine ⟨⟨_,.lst L.at_.lst⟩,fun p xs e1 e2 => ?_⟩
  cases e1
  rw [L.at_.lst] at e2
  cases e2
  refine ⟨by rw [List.length_map]; have := L.len; omega,fun y hy => ?_⟩
  obtain ⟨q,hq,rfl⟩ := List.mem_map.mp hy
  exact th_tup (L.at_.crn q hq).1 fun v hv => by
    simp only [List.mem_cons,List.not_mem_nil,or_false] at hv
    rcases hv with rfl | rfl <;> exact ⟨_,.int _⟩
theorem LTh.mono {H H' : Hp} {v : V} (h : LTh H v) (s : Same H H') : LTh H' v := by
  obtain ⟨⟨t,k⟩,pt⟩ := h
  refine ⟨⟨t,k.mono s⟩,fun p xs e1 e2 => ?_⟩
  subst e1
  have e3 : H p = some (.lst xs) := by
    cases k with
    | lst e => rw [s _ _ e] at e2; cases e2; exact e
    | tup e => rw [s _ _ e] at e2; cases e2
    | dict e => rw [s _ _ e] at e2; cases e2
  obtain ⟨hl,hy⟩ := pt p xs rfl e3
  exact ⟨hl,fun y m => Thing.mono (hy y m) s⟩
theorem lineV_same {H H' : Hp} {v : V} (h : LTh H v) (s : Same H H') : lineV H' v = lineV H v := by
  obtain ⟨⟨t,k⟩,pt⟩ := h
  cases k with
  | non => rfl
  | bl b => rfl
  | int i => rfl
  | str x => rfl
  | @lst a xs e =>
    rw [lineV_lst e,lineV_lst (s _ _ e)]
    unfold lineL
    have z : xs.all (cornV H') = xs.all (cornV H) := by
      have hp := (pt a xs rfl e).2
      rw [Bool.eq_iff_iff,List.all_eq_true,List.all_eq_true]
      constructor
      · intro h y hy
        obtain ⟨k',kn⟩ := (hp y hy).kn
        rw [← cornV_same kn s]
        exact h y hy
      · intro h y hy
        obtain ⟨k',kn⟩ := (hp y hy).kn
        rw [cornV_same kn s]
        exact h y hy
    rw [z]
  | tup e => simp only [lineV,e,s _ _ e]
  | dict e => simp only [lineV,e,s _ _ e]
theorem lth_lst {H : Hp} {r : Addr} {xs : List V} (e : H r = some (.lst xs)) (hl : xs.length ≤ 100) (h : ∀ y ∈ xs,Thing H y) : LTh H (.ref r) := ⟨⟨_,.lst e⟩,fun p ys e1 e2 => by
  cases e1
  rw [e] at e2
  cases e2
  exact ⟨hl,h⟩⟩
theorem lth_tup {H : Hp} {r : Addr} {xs : List V} (e : H r = some (.tup xs)) : LTh H (.ref r) := ⟨⟨_,.tup e⟩,fun p ys e1 e2 => by
  cases e1
  rw [e] at e2
  cases e2⟩
theorem lth_flat {H : Hp} {v : V} {k : String} (kn : Kn H v k) (h : ∀ p,v ≠ .ref p) : LTh H v := ⟨⟨_,kn⟩,fun p _ e => absurd e (h p)⟩
theorem th_two {H : Hp} {p : Addr} {y z : V} (e : H p = some (.tup [y,z])) (hy : ∃ t,Kn H y t) (hz : ∃ t,Kn H z t) : Thing H (.ref p) := th_tup e fun x hx => by
  simp only [List.mem_cons,List.not_mem_nil,or_false] at hx
  rcases hx with rfl | rfl
  · exact hy
  · exact hz
def retScope (s : Stmt) : Scope := match s with
  | .Return (some (.Call _ [.ListComp _ _ sc _] _ _)) _ => sc
  | .Return (some (.ListComp _ _ sc _)) _ => sc
  | _ => { kind := .function,names := [],isGenerator := false,isCoroutine := false }
end Sp7
namespace L2
open PySem PySem.Spec PyProof.Rows
theorem CM.of {i j : Int} {m n : Nat} (hi : bits i ≤ m) (hj : bits j ≤ n) (h : m ≤ 1000000 ∧ n ≤ 1000000) : CM i j := CM.b hi hj (by have : (2:Nat) ^ 20 = 1048576 := by decide
                                                                                                                                     omega) (by have : (2:Nat) ^ 20 = 1048576 := by decide
                                                                                                                                                omega)
end L2
namespace L2
open PySem PySem.Spec PyProof.Rows
def SameT (H H' : Hp) : Prop := ∀ b xs,H b = some (.tup xs) → H' b = some (.tup xs)
theorem Same.t {H H' : Hp} (s : Same H H') : SameT H H' := fun b xs e => s b _ e
theorem SameT.trans {H H1 H2 : Hp} (a : SameT H H1) (b : SameT H1 H2) : SameT H H2 := fun c xs e => b c xs (a c xs e)
theorem SameT.upd {H : Hp} {l : Addr} {xs ys : List V} (hl : H l = some (.lst xs)) : SameT H (upd H l (.lst ys)) := fun b zs e => by
  rw [upd_ne (ne_of e hl (by intro z; cases z))]
  exact e
theorem Same.upd {H0 H : Hp} {l : Addr} {o : HO} (s : Same H0 H) (hl : H0 l = none) : Same H0 (upd H l o) := fun b u e => by
  rw [upd_ne (ne_of_none e hl)]
  exact s b u e
def CompAt (J : It) (fv : List (Str × Nat)) (te : TE) (σ : St) (H1 : Hp) (Q : VK) : Prop := ∀ p,H1 p = none → ∃ W : Nat → Nat → List V → Hp → Prop,(∃ m,W 0 m [] (upd H1 p (.lst []))) ∧ ∀ i m acc H2,W i m acc H2 →
  H2 p = some (.lst acc) ∧ acc.length < sizeLine ∧ ((J.stop i H2 ∧ Q (.ref p) H2) ∨ (J.go i H2 ∧ ∀ x H3,J.yld i H2 x H3 → te (some x :: fvs fv σ) H3 fun y H4 => H4 p = some (.lst acc) ∧ ∃ m',m' < m ∧ W (i + 1) m' (acc ++ [y]) (upd H4 p (.lst (acc ++ [y])))))
def tCompA (wi : TI) (fv : List (Str × Nat)) (te : TE) : TE := fun σ H Q => wi σ H fun J H1 => CompAt J fv te σ H1 Q
section
variable {X : Cx} {scope : Scope} {cl : List (Str × Addr)} {x : Str} {fv : List (Str × Nat)} {elt iter : Expr} {px pos : Pos} {te : TE}
theorem pe_compA {wi : TI} (hcalm : X.calm = true) (C : CompN X scope cl x fv) (hi : PI X (.Name x px) iter wi) (he : ∀ (fp : List Addr) (s₀ : Shared) (H₀ : Hp),PE (X.blk (x :: fv.map (·.1)) scope cl fp s₀ H₀) elt te)
    (hs : ∀ v,foldedSetIterable iter X.env v = pure v := by intro _; rfl) : PE X (.ListComp elt [⟨.Name x px,iter,[],0⟩] scope pos) (tCompA wi fv te) := pe_comp hcalm C hi he hs
theorem ps_setCompA {wi : TI} {y : Str} {j : Nat} {py spos : Pos} (hcalm : X.calm = true) (C : CompN X scope cl x fv) (hN : X.N.Nodup) (hj : X.N[j]? = some y) (hy : X.env.scope.names.lookup y = some .local) (hi : PI X (.Name x px) iter wi) (he : ∀ (fp : List Addr) (s₀ : Shared) (H₀ : Hp),PE (X.blk (x :: fv.map (·.1)) scope cl fp s₀ H₀) elt te)
    (hsw : swapsWith (.ListComp elt [⟨.Name x px,iter,[],0⟩] scope pos) (some (.Name y py)) spos.line X.env = pure true := by rfl)
    (hs : ∀ v,foldedSetIterable iter X.env v = pure v := by intro _; rfl) : PS X (.Assign [.Name y py] (.ListComp elt [⟨.Name x px,iter,[],0⟩] scope pos) spos) (tAsg (tCompA wi fv te) (gName j)) := ps_setComp hcalm C hN hj hy hi he hsw hs
end
theorem comp_R {K : PySem.W.Frag} {a : Addr} {xs : List V} {fv : List (Str × Nat)} {te : TE} {σ : St} {H1 : Hp} {Q : VK} (hL : SqL K H1 a xs) (hlen : xs.length < 1000) (R : Nat → V → Hp → Prop) (hR : ∀ i v H H',SameT H H' → R i v H → R i v H')
    (hs : ∀ i x H2 (Kc : VK),xs[i]? = some x → Same H1 H2 → (∀ y H4,Same H2 H4 → R i y H4 → Kc y H4) → te (some x :: fvs fv σ) H2 Kc)
    (hd : ∀ l ys H',H1 l = none → Same H1 H' → H' l = some (.lst ys) → ys.length = xs.length → (∀ i y,ys[i]? = some y → R i y H') → Q (.ref l) H') :
    CompAt (Itl K a) fv te σ H1 Q := by
  intro l hl
  refine comp_list (K := K) (a := a) (xs := xs) (l := l) (fv := fv) (Qp := fun H2 => Q (.ref l) H2) (fun i acc H2 => acc.length = i ∧ Same H1 H2 ∧ H2 l = some (.lst acc) ∧ ∀ j y,acc[j]? = some y → R j y H2)
    ⟨rfl,Same.new hl,upd_same,fun j y h => by simp at h⟩ ?_ ?_ ?_
  · rintro i acc H2 hi ⟨e1,sm,e3,_⟩
    exact ⟨sm.seq hL,e3,small1000 (by omega)⟩
  · rintro i x acc H2 Kc hx ⟨e1,sm,e3,hr⟩ kk
    refine hs i x H2 Kc hx sm fun y H4 s4 ry => kk y H4 (s4 _ _ e3) ⟨by simp [e1],(sm.trans s4).upd hl,upd_same,fun j z hz => ?_⟩
    have t4 := SameT.upd (ys := acc ++ [y]) (s4 _ _ e3)
    rcases Nat.lt_trichotomy j acc.length with h | h | h
    · rw [List.getElem?_append_left h] at hz
      exact hR _ _ _ _ (s4.t.trans t4) (hr j z hz)
    · subst h
      rw [List.getElem?_append_right (Nat.le_refl _),Nat.sub_self] at hz
      cases hz
      rw [e1]
      exact hR _ _ _ _ t4 ry
    · rw [List.getElem?_eq_none (by simp; omega)] at hz
      cases hz
  · rintro acc H2 ⟨e1,sm,e3,hr⟩
    exact hd l acc H2 hl sm e3 e1 hr
end L2
namespace L2
open PySem PySem.Spec PyProof.Rows
section
variable {X : Cx} {pos : Pos} {es : List Expr} {ta : TA}
inductive newO (f : List V → HO) (xs : List V) (H1 : Hp) (Q : VK) : Prop
  | mk (z : xs.length ≤ sizeLine) (q : ∀ p H2,Same H1 H2 → H2 p = some (f xs) → H1 p = none → Q (.ref p) H2) : newO f xs H1 Q
def tTupA (t : TA) : TE := fun σ H Q => t σ H fun xs H1 => newO .tup xs H1 Q
def tLstA (t : TA) : TE := fun σ H Q => t σ H fun xs H1 => newO .lst xs H1 Q
theorem pe_tupA {x1} (h : PA X es ta) : PE X (.Tuple es x1 pos) (tTupA ta) := by
  intro pins s σ H Q I hq
  refine wpAny_Tuple_spliced (thn (h pos pins s σ H _ I hq) fun us s1 ⟨xs,H1,I1,r,z,q⟩ => ⟨by rw [← r.length]; exact z,?_⟩)
  have hf : H1 s1.heap.objs.size = none := I1.hok.fresh (Nat.le_refl _)
  refine ⟨.ref s1.heap.objs.size,upd H1 s1.heap.objs.size (.tup xs),I1.laid (t' := s1.toks) (fun b u e => Heap.get?_push_of_some _ e) (Nat.le_refl _) ?_,rfl,q _ _ (Same.new hf) upd_same hf⟩
  exact ⟨z,us,r,⟨_,Heap.get?_push_size _ rfl,rfl,_,rfl⟩⟩
theorem pe_lstA (h : PA X es ta) : PE X (.List es pos) (tLstA ta) := by
  intro pins s σ H Q I hq
  refine wpAny_List_spliced (thn (h pos pins s σ H _ I hq) fun us s1 ⟨xs,H1,I1,r,z,q⟩ => ⟨by rw [← r.length]; exact z,?_⟩)
  have hf : H1 s1.heap.objs.size = none := I1.hok.fresh (Nat.le_refl _)
  refine ⟨.ref s1.heap.objs.size,upd H1 s1.heap.objs.size (.lst xs),I1.laid (t' := s1.toks) (fun b u e => Heap.get?_push_of_some _ e) (Nat.le_refl _) ?_,rfl,q _ _ (Same.new hf) upd_same hf⟩
  exact ⟨z,us,0,r,Heap.get?_push_size _ rfl⟩
inductive rSlLA (K : PySem.W.Frag) (x : V) (lo : Option Int) (hi : Option Int) (H : Hp) (Q : VK) : Prop
  | mk : ∀ a xs,(x = .ref a) → (SqL K H a xs) → (∀ p H2,Same H H2 → H2 p = some (.lst (cutV xs lo hi)) → H p = none → Q (.ref p) H2) → rSlLA K x lo hi H Q
theorem sl_listA : SlR X (rSlLA X.K) := fun pins s σ H x v vl vu lo hi sl Q I rx hs pl pu ⟨a,xs,e,hx,q⟩ =>
  sl_list pins s σ H x v vl vu lo hi sl Q I rx hs pl pu ⟨a,xs,e,hx,fun p hp => q p _ (Same.new hp) upd_same hp⟩
inductive rCatA (x : V) (y : V) (H : Hp) (Q : VK) : Prop
  | mk : ∀ l b xs zs,(x = .ref l) → (y = .ref b) → (H l = some (.lst xs)) → (H b = some (.lst zs)) → (xs.length + zs.length ≤ sizeLine) → (∀ p H2,Same H H2 → H2 p = some (.lst (xs ++ zs)) → H p = none → Q (.ref p) H2) → rCatA x y H Q
theorem op_catA : OpR X (binaryOp .Add) rCatA := fun pins s σ H x y v u Q I rx ry ⟨l,b,xs,zs,e1,e2,h1,h2,hz,q⟩ =>
  op_cat pins s σ H x y v u Q I rx ry ⟨l,b,xs,zs,e1,e2,h1,h2,hz,fun p hp => q p _ (Same.new hp) upd_same hp⟩
inductive rRepA (x : V) (y : V) (H : Hp) (Q : VK) : Prop
  | mk : ∀ l k xs,(x = .ref l) → (y = .int k) → (H l = some (.lst xs)) → (-(2 ^ 63) ≤ k) → (k < 2 ^ 63) → (xs.length * k.toNat ≤ sizeLine) → (∀ p H2,Same H H2 → H2 p = some (.lst (List.replicate k.toNat xs).flatten) → H p = none → Q (.ref p) H2) → rRepA x y H Q
theorem op_repA : OpR X (binaryOp .Mult) rRepA := fun pins s σ H x y v u Q I rx ry ⟨l,k,xs,e1,e2,h1,h2,h3,hz,q⟩ =>
  op_rep pins s σ H x y v u Q I rx ry ⟨l,k,xs,e1,e2,h1,h2,h3,hz,fun p hp => q p _ (Same.new hp) upd_same hp⟩
theorem call_list_ofA : CallR X (.type "list") (fun xs H Q => ∃ p ys,xs = [.ref p] ∧ (SqL X.K H p ys ∨ SqT X.K H p ys) ∧ ∀ l H2,Same H H2 → H2 l = some (.lst ys) → H l = none → Q (.ref l) H2) := fun pins s σ H xs us Q I r ⟨p,ys,e,hq,q⟩ =>
  call_list_of pins s σ H xs us Q I r ⟨p,ys,e,hq,fun l hl => q l _ (Same.new hl) upd_same hl⟩
structure Upd (H H' : Hp) (l : Addr) (xs ys : List V) : Prop where
  was : H l = some (.lst xs)
  now : H' l = some (.lst ys)
  oth : ∀ b,b ≠ l → H' b = H b
theorem Upd.mk' {H : Hp} {l : Addr} {xs ys : List V} (h : H l = some (.lst xs)) : Upd H (L2.upd H l (.lst ys)) l xs ys := ⟨h,upd_same,fun _ n => upd_ne n⟩
theorem Upd.t {H H' : Hp} {l : Addr} {xs ys : List V} (u : Upd H H' l xs ys) : SameT H H' := fun b zs e => by
  rw [u.oth b (ne_of e u.was (by intro z; cases z))]
  exact e
theorem Upd.same {H0 H H' : Hp} {l : Addr} {xs ys : List V} (u : Upd H H' l xs ys) (s : Same H0 H) (h : H0 l = none) : Same H0 H' := fun b o e => by
  rw [u.oth b (ne_of_none e h)]
  exact s b o e
theorem Upd.at {H H' : Hp} {l b : Addr} {xs ys : List V} {o : HO} (u : Upd H H' l xs ys) (n : b ≠ l) (e : H b = some o) : H' b = some o := by
  rw [u.oth b n]
  exact e
inductive rAppendA (x : V) (vs : List V) (H : Hp) (Q : VK) : Prop
  | mk : ∀ l xs y,(x = .ref l) → (vs = [y]) → (H l = some (.lst xs)) → (xs.length < sizeLine) → (∀ H',Upd H H' l xs (xs ++ [y]) → Q .non H') → rAppendA x vs H Q
theorem mt_appendA : MtM X "list.append" rAppendA := fun pins s σ H x xs v us Q I rx rs ⟨l,ys,y,e1,e2,h,hz,q⟩ =>
  mt_append pins s σ H x xs v us Q I rx rs ⟨l,ys,y,e1,e2,h,hz,q _ (.mk' h)⟩
inductive rSetLA (o : V) (i : V) (v : V) (H : Hp) (Q : (Hp → Prop)) : Prop
  | mk : ∀ p xs k j,(o = .ref p) → (i = .int k) → (H p = some (.lst xs)) → (ixN xs.length k = some j) → (∀ H',Upd H H' p xs (xs.set j v) → Q H') → rSetLA o i v H Q
theorem set_listA : PSet X rSetLA := fun pins s σ H o i v uo ui uv Q I ro ri rv ⟨p,xs,k,j,e1,e2,h,hj,q⟩ =>
  set_list pins s σ H o i v uo ui uv Q I ro ri rv ⟨p,xs,k,j,e1,e2,h,hj,q _ (.mk' h)⟩
inductive rReverseA (x : V) (vs : List V) (H : Hp) (Q : VK) : Prop
  | mk : ∀ l xs,(x = .ref l) → (vs = []) → (H l = some (.lst xs)) → (∀ H',Upd H H' l xs xs.reverse → Q .non H') → rReverseA x vs H Q
theorem mt_reverseA : MtM X "list.reverse" rReverseA := fun pins s σ H x xs v us Q I rx rs ⟨l,ys,e1,e2,h,q⟩ =>
  mt_reverse pins s σ H x xs v us Q I rx rs ⟨l,ys,e1,e2,h,q _ (.mk' h)⟩
end
end L2
namespace L2
open PySem PySem.Spec PyProof.Rows
theorem len3 {α : Type} {xs : List α} (h : xs.length = 3) : ∃ a b c,xs = [a,b,c] := match xs,h with | [a,b,c],_ => ⟨a,b,c,rfl⟩
theorem len2 {α : Type} {xs : List α} (h : xs.length = 2) : ∃ a b,xs = [a,b] := match xs,h with | [a,b],_ => ⟨a,b,rfl⟩
theorem len4 {α : Type} {xs : List α} (h : xs.length = 4) : ∃ a b c d,xs = [a,b,c,d] := match xs,h with | [a,b,c,d],_ => ⟨a,b,c,d,rfl⟩
theorem len5 {α : Type} {xs : List α} (h : xs.length = 5) : ∃ a b c d e,xs = [a,b,c,d,e] := match xs,h with | [a,b,c,d,e],_ => ⟨a,b,c,d,e,rfl⟩
theorem len6 {α : Type} {xs : List α} (h : xs.length = 6) : ∃ a b c d e f,xs = [a,b,c,d,e,f] := match xs,h with | [a,b,c,d,e,f],_ => ⟨a,b,c,d,e,f,rfl⟩
end L2
namespace L2
open PySem PySem.Spec PyProof.Rows
section
variable {X : Cx} {pins : List (Addr × Obj)} {σ : St} {H : Hp} {s : Shared}
end
section
variable {X : Cx} {elts : List Expr} {kt : Nat} {tpos : Pos}
end
end L2
namespace L2
open PySem PySem.Spec PyProof.Rows
inductive D where
  | non | bl (b : Bool) | int (i : Int) | str (x : Str) | tup (ds : List D) | lst (ds : List D)
inductive Rp (H : Hp) : Nat → V → D → Prop where
  | non {n : Nat} : Rp H n .non .non
  | bl {n : Nat} {b : Bool} : Rp H n (.bl b) (.bl b)
  | int {n : Nat} {i : Int} : Rp H n (.int i) (.int i)
  | str {n : Nat} {x : Str} : Rp H n (.str x) (.str x)
  | tup {n : Nat} {p : Addr} {xs : List V} {ds : List D} (e : H p = some (.tup xs)) (hl : xs.length = ds.length) (h : ∀ (j : Nat) x d,xs[j]? = some x → ds[j]? = some d → Rp H n x d) : Rp H (n + 1) (.ref p) (.tup ds)
  | lst {n : Nat} {p : Addr} {xs : List V} {ds : List D} (e : H p = some (.lst xs)) (hl : xs.length = ds.length) (h : ∀ (j : Nat) x d,xs[j]? = some x → ds[j]? = some d → Rp H n x d) : Rp H (n + 1) (.ref p) (.lst ds)
theorem Rp.mono {H H' : Hp} {n : Nat} {v : V} {d : D} (r : Rp H n v d) (s : Same H H') : Rp H' n v d := by
  induction r with
  | non => exact .non
  | bl => exact .bl
  | int => exact .int
  | str => exact .str
  | tup e hl h ih => exact .tup (s _ _ e) hl ih
  | lst e hl h ih => exact .lst (s _ _ e) hl ih
theorem Rp.deep {H : Hp} {n m : Nat} {v : V} {d : D} (r : Rp H n v d) (hm : n ≤ m) : Rp H m v d := by
  induction r generalizing m with
  | non => exact .non
  | bl => exact .bl
  | int => exact .int
  | str => exact .str
  | tup e hl h ih =>
    obtain ⟨k,rfl⟩ : ∃ k,m = k + 1 := ⟨m - 1,by omega⟩
    exact .tup e hl fun j x d a b => ih j x d a b (by omega)
  | lst e hl h ih =>
    obtain ⟨k,rfl⟩ : ∃ k,m = k + 1 := ⟨m - 1,by omega⟩
    exact .lst e hl fun j x d a b => ih j x d a b (by omega)
mutual
def deq : D → D → Bool
  | .non,.non => true
  | .bl a,.bl b => a == b
  | .bl a,.int b => (if a then 1 else 0) == b
  | .int a,.bl b => a == (if b then 1 else 0)
  | .int a,.int b => a == b
  | .str a,.str b => a == b
  | .tup xs,.tup ys => deqs xs ys
  | .lst xs,.lst ys => deqs xs ys
  | _,_ => false
def deqs : List D → List D → Bool
  | [],[] => true
  | x :: xs,y :: ys => deq x y && deqs xs ys
  | _,_ => false
end
theorem deqs_all : ∀ (ds es : List D),((List.range (min ds.length es.length)).all (fun j => deq (ds.getD j .non) (es.getD j .non)) && ds.length == es.length) = deqs ds es
  | [],[] => by simp [deqs]
  | [],e :: es => by simp [deqs]
  | d :: ds,[] => by simp [deqs]
  | d :: ds,e :: es => by
    have ih := deqs_all ds es
    have hm : min (d :: ds).length (e :: es).length = min ds.length es.length + 1 := by simp only [List.length_cons]; omega
    rw [hm,List.range_succ_eq_map,List.all_cons,List.all_map]
    simp only [deqs,List.getD_cons_zero,List.length_cons]
    rw [← ih,Bool.and_assoc]
    congr 1
    simp [Function.comp_def]
theorem deqs_len {ds es : List D} (h : ds.length ≠ es.length) : deqs ds es = false := by
  rw [← deqs_all]
  simp [h]
theorem deqs_all' {ds es : List D} (h : ds.length = es.length) : (List.range ds.length).all (fun j => deq (ds.getD j .non) (es.getD j .non)) = deqs ds es := by
  rw [← deqs_all,h]
  simp
theorem deqs_of {ds es : List D} (hl : ds.length = es.length) (h : ∀ (j : Nat) d e,ds[j]? = some d → es[j]? = some e → deq d e = true) : deqs ds es = true := by
  rw [← deqs_all' hl,List.all_eq_true]
  intro j hj
  have hj' : j < ds.length := List.mem_range.mp hj
  have hj2 : j < es.length := by omega
  have e1 : ds[j]? = some ds[j] := List.getElem?_eq_getElem hj'
  have e2 : es[j]? = some es[j] := List.getElem?_eq_getElem hj2
  rw [List.getD_eq_getElem?_getD,List.getD_eq_getElem?_getD,e1,e2]
  exact h j _ _ e1 e2
theorem get_of_len {α β : Type} {xs : List α} {ds : List β} {j : Nat} {d : β} (hl : xs.length = ds.length) (h : ds[j]? = some d) : ∃ x,xs[j]? = some x := by
  have := (List.getElem?_eq_some_iff.mp h).1
  exact ⟨xs[j],List.getElem?_eq_getElem (by omega)⟩
theorem Rp.self {H : Hp} {n m : Nat} {v : V} {d e : D} (r : Rp H n v d) (q : Rp H m v e) : deq d e = true := by
  induction r generalizing m e with
  | non => cases q; rfl
  | bl => cases q; simp [deq]
  | int => cases q; simp [deq]
  | str => cases q; simp [deq]
  | tup e1 hl h ih =>
    cases q with
    | tup e2 hl2 h2 =>
      rw [e1] at e2
      cases e2
      refine deqs_of (by omega) fun j a b ea eb => ?_
      obtain ⟨x,hx⟩ := get_of_len hl ea
      exact ih j x a hx ea (h2 j x b hx eb)
    | lst e2 hl2 h2 => rw [e1] at e2; cases e2
  | lst e1 hl h ih =>
    cases q with
    | tup e2 hl2 h2 => rw [e1] at e2; cases e2
    | lst e2 hl2 h2 =>
      rw [e1] at e2
      cases e2
      refine deqs_of (by omega) fun j a b ea eb => ?_
      obtain ⟨x,hx⟩ := get_of_len hl ea
      exact ih j x a hx ea (h2 j x b hx eb)
section
variable {X : Cx} {pins : List (Addr × Obj)} {σ : St} {H : Hp} {s : Shared}
theorem elts_at {A : Around} {xs ys : List V} {us ws : List Value} {ds es : List D} (r : Vals xs us) (r' : Vals ys ws) (hl : xs.length = ds.length) (hl' : ys.length = es.length)
    (h : ∀ (j : Nat) x y d e u w,xs[j]? = some x → ys[j]? = some y → ds[j]? = some d → es[j]? = some e → RelV x u → RelV y w → SeqAt.EqAt A s u w (deq d e))
    (j : Nat) (h1 : j < us.toArray.size) (h2 : j < ws.toArray.size) : SeqAt.EqAt A s us.toArray[j] ws.toArray[j] (deq (ds.getD j .non) (es.getD j .non)) := by
  rw [List.size_toArray] at h1 h2
  obtain ⟨a,ea,ra⟩ := val_get r h1
  obtain ⟨c,ec,rc⟩ := val_get r' h2
  have g1 := (List.getElem?_eq_some_iff.mp ea).1
  have g2 := (List.getElem?_eq_some_iff.mp ec).1
  have e1 : ds[j]? = some ds[j] := List.getElem?_eq_getElem (by omega)
  have e2 : es[j]? = some es[j] := List.getElem?_eq_getElem (by omega)
  rw [List.getD_eq_getElem?_getD,List.getD_eq_getElem?_getD,e1,e2]
  exact h j a c _ _ _ _ ea ec e1 e2 ra rc
theorem Rp.eqAt {n : Nat} {x : V} {d : D} (r : Rp H n x d) : ∀ {m : Nat} {y : V} {e : D} {A : Around} {u v : Value},Rp H m y e → Inv X pins σ H s → RelV x u → RelV y v → A.units + n < cLine → SeqAt.EqAt A s u v (deq d e) := by
  induction r with
  | non =>
    intro m y e A u v q I ru rv hu
    cases ru
    cases q with
    | non => cases rv; exact SeqAt.EqAt.same _
    | bl => cases rv; exact SeqAt.EqAt.none_bool _
    | int => obtain ⟨_,rfl⟩ := rv; exact SeqAt.EqAt.none_int _ _
    | str => obtain ⟨_,rfl⟩ := rv; exact SeqAt.EqAt.none_str _ _
    | tup e1 hl h => cases rv; obtain ⟨its,_,pl,_⟩ := I.tuple (SqT.of e1); exact SeqAt.EqAt.none_tuple pl (by omega)
    | lst e1 hl h => cases rv; obtain ⟨its,_,pl,_⟩ := I.list (SqL.of e1); exact SeqAt.EqAt.none_list pl.isList (by omega)
  | bl =>
    intro m y e A u v q I ru rv hu
    cases ru
    cases q with
    | non => cases rv; exact SeqAt.EqAt.bool_none _
    | bl => cases rv; exact SeqAt.EqAt.bool_bool _ _
    | int => obtain ⟨_,rfl⟩ := rv; exact SeqAt.EqAt.bool_int _ _ _
    | str => obtain ⟨_,rfl⟩ := rv; exact SeqAt.EqAt.bool_str _ _ _
    | tup e1 hl h => cases rv; obtain ⟨its,_,pl,_⟩ := I.tuple (SqT.of e1); exact SeqAt.EqAt.bool_tuple _ pl (by omega)
    | lst e1 hl h => cases rv; obtain ⟨its,_,pl,_⟩ := I.list (SqL.of e1); exact SeqAt.EqAt.bool_list _ pl.isList (by omega)
  | int =>
    intro m y e A u v q I ru rv hu
    obtain ⟨_,rfl⟩ := ru
    cases q with
    | non => cases rv; exact SeqAt.EqAt.int_none _ _
    | bl => cases rv; exact SeqAt.EqAt.int_bool _ _ _
    | int => obtain ⟨_,rfl⟩ := rv; exact SeqAt.EqAt.int_int _ _ _ _
    | str => obtain ⟨_,rfl⟩ := rv; exact SeqAt.EqAt.int_str _ _ _ _
    | tup e1 hl h => cases rv; obtain ⟨its,_,pl,_⟩ := I.tuple (SqT.of e1); exact SeqAt.EqAt.int_tuple _ _ pl (by omega)
    | lst e1 hl h => cases rv; obtain ⟨its,_,pl,_⟩ := I.list (SqL.of e1); exact SeqAt.EqAt.int_list _ _ pl.isList (by omega)
  | str =>
    intro m y e A u v q I ru rv hu
    obtain ⟨_,rfl⟩ := ru
    cases q with
    | non => cases rv; exact SeqAt.EqAt.str_none _ _
    | bl => cases rv; exact SeqAt.EqAt.str_bool _ _ _
    | int => obtain ⟨_,rfl⟩ := rv; exact SeqAt.EqAt.str_int _ _ _ _
    | str => obtain ⟨_,rfl⟩ := rv; exact SeqAt.EqAt.str_str _ _ _ _
    | tup e1 hl h => cases rv; obtain ⟨its,_,pl,_⟩ := I.tuple (SqT.of e1); exact SeqAt.EqAt.str_tuple _ _ pl (by omega)
    | lst e1 hl h => cases rv; obtain ⟨its,_,pl,_⟩ := I.list (SqL.of e1); exact SeqAt.EqAt.str_list _ _ pl.isList (by omega)
  | @tup n p xs ds e0 hl h ih =>
    intro m y e A u v q I ru rv hu
    cases ru
    obtain ⟨its,r1,pl,_⟩ := I.tuple (SqT.of e0)
    cases q with
    | non => cases rv; exact SeqAt.EqAt.tuple_none pl (by omega)
    | bl => cases rv; exact SeqAt.EqAt.tuple_bool _ pl (by omega)
    | int => obtain ⟨_,rfl⟩ := rv; exact SeqAt.EqAt.tuple_int _ _ pl (by omega)
    | str => obtain ⟨_,rfl⟩ := rv; exact SeqAt.EqAt.tuple_str _ _ pl (by omega)
    | lst e1 hl1 h1 => cases rv; obtain ⟨jts,_,pl',_⟩ := I.list (SqL.of e1); exact SeqAt.EqAt.tuple_list pl pl'.isList (by omega)
    | @tup m p' ys es e1 hl1 h1 =>
      cases rv
      by_cases hne : p = p'
      · subst hne
        have z : deq (.tup ds) (.tup es) = true := Rp.self (Rp.tup e0 hl h) (Rp.tup e1 hl1 h1)
        rw [z]
        exact SeqAt.EqAt.same _
      · obtain ⟨jts,r2,pl',_⟩ := I.tuple (SqT.of e1)
        have y := SeqAt.RcAt.tuples (A := A) (e := fun j => deq (ds.getD j .non) (es.getD j .non)) pl pl' (by omega) (elts_at r1 r2 hl hl1 fun j x y d e u w a b c k ra rb => ih j x d a c (h1 j y e b k) I ra rb (by show A.units + 1 + n < cLine; omega))
        rw [List.size_toArray,List.size_toArray,← r1.length,← r2.length,hl,hl1,deqs_all] at y
        exact SeqAt.EqAt.of_refs hne y
  | @lst n p xs ds e0 hl h ih =>
    intro m y e A u v q I ru rv hu
    cases ru
    obtain ⟨its,r1,pl,_⟩ := I.list (SqL.of e0)
    cases q with
    | non => cases rv; exact SeqAt.EqAt.list_none pl.isList (by omega)
    | bl => cases rv; exact SeqAt.EqAt.list_bool _ pl.isList (by omega)
    | int => obtain ⟨_,rfl⟩ := rv; exact SeqAt.EqAt.list_int _ _ pl.isList (by omega)
    | str => obtain ⟨_,rfl⟩ := rv; exact SeqAt.EqAt.list_str _ _ pl.isList (by omega)
    | tup e1 hl1 h1 => cases rv; obtain ⟨jts,_,pl',_⟩ := I.tuple (SqT.of e1); exact SeqAt.EqAt.list_tuple pl.isList pl' (by omega)
    | @lst m p' ys es e1 hl1 h1 =>
      cases rv
      by_cases hne : p = p'
      · subst hne
        have z : deq (.lst ds) (.lst es) = true := Rp.self (Rp.lst e0 hl h) (Rp.lst e1 hl1 h1)
        rw [z]
        exact SeqAt.EqAt.same _
      · obtain ⟨jts,r2,pl',_⟩ := I.list (SqL.of e1)
        have g1 := r1.length
        have g2 := r2.length
        by_cases hz : ds.length = es.length
        · have y := SeqAt.RcAt.lists (A := A) (e := fun j => deq (ds.getD j .non) (es.getD j .non)) pl.isList pl'.isList (by rw [List.size_toArray,List.size_toArray]; omega) (by omega) (elts_at r1 r2 hl hl1 fun j x y d e u w a b c k ra rb => ih j x d a c (h1 j y e b k) I ra rb (by show A.units + 1 + n < cLine; omega))
          rw [List.size_toArray,← r1.length,hl,deqs_all' hz] at y
          exact SeqAt.EqAt.of_refs hne y
        · rw [show deq (.lst ds) (.lst es) = false from deqs_len hz]
          exact SeqAt.EqAt.of_refs hne (SeqAt.RcAt.lists_lengths pl.isList pl'.isList (by rw [List.size_toArray,List.size_toArray]; simp; omega) (by omega))
end
end L2
namespace L2
open PySem PySem.Spec PyProof.Rows
section
variable {X : Cx} {pins : List (Addr × Obj)} {σ : St} {H : Hp} {s : Shared}
theorem Rp.rcAt {A : Around} {n m : Nat} {x y : V} {d e : D} {u v : Value} (r : Rp H n x d) (q : Rp H m y e) (I : Inv X pins σ H s) (ru : RelV x u) (rv : RelV y v) (hu : A.units + n + 1 < cLine) : SeqAt.RcAt A s u v (deq d e) := by
  cases r with
  | non =>
    cases q with
    | non =>
      cases ru
      cases rv
      exact SeqAt.RcAt.none_none
    | bl =>
      cases ru
      cases rv
      exact SeqAt.RcAt.none_bool _
    | int =>
      cases ru
      obtain ⟨_,rfl⟩ := rv
      exact SeqAt.RcAt.none_int _ _
    | str =>
      cases ru
      obtain ⟨_,rfl⟩ := rv
      exact SeqAt.RcAt.none_str _ _
    | @tup m p' ys es e1 hl1 h1 =>
      cases ru
      cases rv
      obtain ⟨jts,r2,pl',_⟩ := I.tuple (SqT.of e1)
      exact SeqAt.RcAt.none_tuple pl' (by omega)
    | @lst m p' ys es e1 hl1 h1 =>
      cases ru
      cases rv
      obtain ⟨jts,r2,pl',_⟩ := I.list (SqL.of e1)
      exact SeqAt.RcAt.none_list pl'.isList (by omega)
  | bl =>
    cases q with
    | non =>
      cases ru
      cases rv
      exact SeqAt.RcAt.bool_none _
    | bl =>
      cases ru
      cases rv
      exact SeqAt.RcAt.bool_bool _ _
    | int =>
      cases ru
      obtain ⟨_,rfl⟩ := rv
      exact SeqAt.RcAt.bool_int _ _ _
    | str =>
      cases ru
      obtain ⟨_,rfl⟩ := rv
      exact SeqAt.RcAt.bool_str _ _ _
    | @tup m p' ys es e1 hl1 h1 =>
      cases ru
      cases rv
      obtain ⟨jts,r2,pl',_⟩ := I.tuple (SqT.of e1)
      exact SeqAt.RcAt.bool_tuple _ pl' (by omega)
    | @lst m p' ys es e1 hl1 h1 =>
      cases ru
      cases rv
      obtain ⟨jts,r2,pl',_⟩ := I.list (SqL.of e1)
      exact SeqAt.RcAt.bool_list _ pl'.isList (by omega)
  | int =>
    cases q with
    | non =>
      obtain ⟨_,rfl⟩ := ru
      cases rv
      exact SeqAt.RcAt.int_none _ _
    | bl =>
      obtain ⟨_,rfl⟩ := ru
      cases rv
      exact SeqAt.RcAt.int_bool _ _ _
    | int =>
      obtain ⟨_,rfl⟩ := ru
      obtain ⟨_,rfl⟩ := rv
      exact SeqAt.RcAt.int_int _ _ _ _
    | str =>
      obtain ⟨_,rfl⟩ := ru
      obtain ⟨_,rfl⟩ := rv
      exact SeqAt.RcAt.int_str _ _ _ _
    | @tup m p' ys es e1 hl1 h1 =>
      obtain ⟨_,rfl⟩ := ru
      cases rv
      obtain ⟨jts,r2,pl',_⟩ := I.tuple (SqT.of e1)
      exact SeqAt.RcAt.int_tuple _ _ pl' (by omega)
    | @lst m p' ys es e1 hl1 h1 =>
      obtain ⟨_,rfl⟩ := ru
      cases rv
      obtain ⟨jts,r2,pl',_⟩ := I.list (SqL.of e1)
      exact SeqAt.RcAt.int_list _ _ pl'.isList (by omega)
  | str =>
    cases q with
    | non =>
      obtain ⟨_,rfl⟩ := ru
      cases rv
      exact SeqAt.RcAt.str_none _ _
    | bl =>
      obtain ⟨_,rfl⟩ := ru
      cases rv
      exact SeqAt.RcAt.str_bool _ _ _
    | int =>
      obtain ⟨_,rfl⟩ := ru
      obtain ⟨_,rfl⟩ := rv
      exact SeqAt.RcAt.str_int _ _ _ _
    | str =>
      obtain ⟨_,rfl⟩ := ru
      obtain ⟨_,rfl⟩ := rv
      exact SeqAt.RcAt.str_str _ _ _ _
    | @tup m p' ys es e1 hl1 h1 =>
      obtain ⟨_,rfl⟩ := ru
      cases rv
      obtain ⟨jts,r2,pl',_⟩ := I.tuple (SqT.of e1)
      exact SeqAt.RcAt.str_tuple _ _ pl' (by omega)
    | @lst m p' ys es e1 hl1 h1 =>
      obtain ⟨_,rfl⟩ := ru
      cases rv
      obtain ⟨jts,r2,pl',_⟩ := I.list (SqL.of e1)
      exact SeqAt.RcAt.str_list _ _ pl'.isList (by omega)
  | @tup n p xs ds e0 hl h =>
    cases q with
    | non =>
      cases ru
      cases rv
      obtain ⟨its,r1,pl,_⟩ := I.tuple (SqT.of e0)
      exact SeqAt.RcAt.tuple_none pl (by omega)
    | bl =>
      cases ru
      cases rv
      obtain ⟨its,r1,pl,_⟩ := I.tuple (SqT.of e0)
      exact SeqAt.RcAt.tuple_bool _ pl (by omega)
    | int =>
      cases ru
      obtain ⟨_,rfl⟩ := rv
      obtain ⟨its,r1,pl,_⟩ := I.tuple (SqT.of e0)
      exact SeqAt.RcAt.tuple_int _ _ pl (by omega)
    | str =>
      cases ru
      obtain ⟨_,rfl⟩ := rv
      obtain ⟨its,r1,pl,_⟩ := I.tuple (SqT.of e0)
      exact SeqAt.RcAt.tuple_str _ _ pl (by omega)
    | @tup m p' ys es e1 hl1 h1 =>
      cases ru
      cases rv
      obtain ⟨its,r1,pl,_⟩ := I.tuple (SqT.of e0)
      obtain ⟨jts,r2,pl',_⟩ := I.tuple (SqT.of e1)
      have y := SeqAt.RcAt.tuples (A := A) (e := fun j => deq (ds.getD j .non) (es.getD j .non)) pl pl' (by omega) (elts_at r1 r2 hl hl1 fun j x y d e u w a b c k ra rb => (h j x d a c).eqAt (h1 j y e b k) I ra rb (by show A.units + 1 + _ < cLine; omega))
      rw [List.size_toArray,List.size_toArray,← r1.length,← r2.length,hl,hl1,deqs_all] at y
      exact y
    | @lst m p' ys es e1 hl1 h1 =>
      cases ru
      cases rv
      obtain ⟨its,r1,pl,_⟩ := I.tuple (SqT.of e0)
      obtain ⟨jts,r2,pl',_⟩ := I.list (SqL.of e1)
      exact SeqAt.RcAt.tuple_list pl pl'.isList (by omega)
  | @lst n p xs ds e0 hl h =>
    cases q with
    | non =>
      cases ru
      cases rv
      obtain ⟨its,r1,pl,_⟩ := I.list (SqL.of e0)
      exact SeqAt.RcAt.list_none pl.isList (by omega)
    | bl =>
      cases ru
      cases rv
      obtain ⟨its,r1,pl,_⟩ := I.list (SqL.of e0)
      exact SeqAt.RcAt.list_bool _ pl.isList (by omega)
    | int =>
      cases ru
      obtain ⟨_,rfl⟩ := rv
      obtain ⟨its,r1,pl,_⟩ := I.list (SqL.of e0)
      exact SeqAt.RcAt.list_int _ _ pl.isList (by omega)
    | str =>
      cases ru
      obtain ⟨_,rfl⟩ := rv
      obtain ⟨its,r1,pl,_⟩ := I.list (SqL.of e0)
      exact SeqAt.RcAt.list_str _ _ pl.isList (by omega)
    | @tup m p' ys es e1 hl1 h1 =>
      cases ru
      cases rv
      obtain ⟨its,r1,pl,_⟩ := I.list (SqL.of e0)
      obtain ⟨jts,r2,pl',_⟩ := I.tuple (SqT.of e1)
      exact SeqAt.RcAt.list_tuple pl.isList pl' (by omega)
    | @lst m p' ys es e1 hl1 h1 =>
      cases ru
      cases rv
      obtain ⟨its,r1,pl,_⟩ := I.list (SqL.of e0)
      obtain ⟨jts,r2,pl',_⟩ := I.list (SqL.of e1)
      have g1 := r1.length
      have g2 := r2.length
      by_cases hz : ds.length = es.length
      · have y := SeqAt.RcAt.lists (A := A) (e := fun j => deq (ds.getD j .non) (es.getD j .non)) pl.isList pl'.isList (by rw [List.size_toArray,List.size_toArray]; omega) (by omega) (elts_at r1 r2 hl hl1 fun j x y d e u w a b c k ra rb => (h j x d a c).eqAt (h1 j y e b k) I ra rb (by show A.units + 1 + _ < cLine; omega))
        rw [List.size_toArray,← r1.length,hl,deqs_all' hz] at y
        exact y
      · rw [show deq (.lst ds) (.lst es) = false from deqs_len hz]
        exact SeqAt.RcAt.lists_lengths pl.isList pl'.isList (by rw [List.size_toArray,List.size_toArray]; simp; omega) (by omega)
theorem Rp.rcNeAt {A : Around} {n m : Nat} {x y : V} {d e : D} {u v : Value} (r : Rp H n x d) (q : Rp H m y e) (I : Inv X pins σ H s) (ru : RelV x u) (rv : RelV y v) (hu : A.units + n + 1 < cLine) : SeqAt.RcNeAt A s u v (!(deq d e)) := by
  cases r with
  | non =>
    cases q with
    | non =>
      cases ru
      cases rv
      exact SeqAt.RcNeAt.none_none
    | bl =>
      cases ru
      cases rv
      exact SeqAt.RcNeAt.none_bool _
    | int =>
      cases ru
      obtain ⟨_,rfl⟩ := rv
      exact SeqAt.RcNeAt.none_int _ _
    | str =>
      cases ru
      obtain ⟨_,rfl⟩ := rv
      exact SeqAt.RcNeAt.none_str _ _
    | @tup m p' ys es e1 hl1 h1 =>
      cases ru
      cases rv
      obtain ⟨jts,r2,pl',_⟩ := I.tuple (SqT.of e1)
      exact SeqAt.RcNeAt.none_tuple pl' (by omega)
    | @lst m p' ys es e1 hl1 h1 =>
      cases ru
      cases rv
      obtain ⟨jts,r2,pl',_⟩ := I.list (SqL.of e1)
      exact SeqAt.RcNeAt.none_list pl'.isList (by omega)
  | bl =>
    cases q with
    | non =>
      cases ru
      cases rv
      exact SeqAt.RcNeAt.bool_none _
    | bl =>
      cases ru
      cases rv
      exact SeqAt.RcNeAt.bool_bool _ _
    | int =>
      cases ru
      obtain ⟨_,rfl⟩ := rv
      exact SeqAt.RcNeAt.bool_int _ _ _
    | str =>
      cases ru
      obtain ⟨_,rfl⟩ := rv
      exact SeqAt.RcNeAt.bool_str _ _ _
    | @tup m p' ys es e1 hl1 h1 =>
      cases ru
      cases rv
      obtain ⟨jts,r2,pl',_⟩ := I.tuple (SqT.of e1)
      exact SeqAt.RcNeAt.bool_tuple _ pl' (by omega)
    | @lst m p' ys es e1 hl1 h1 =>
      cases ru
      cases rv
      obtain ⟨jts,r2,pl',_⟩ := I.list (SqL.of e1)
      exact SeqAt.RcNeAt.bool_list _ pl'.isList (by omega)
  | int =>
    cases q with
    | non =>
      obtain ⟨_,rfl⟩ := ru
      cases rv
      exact SeqAt.RcNeAt.int_none _ _
    | bl =>
      obtain ⟨_,rfl⟩ := ru
      cases rv
      exact SeqAt.RcNeAt.int_bool _ _ _
    | int =>
      obtain ⟨_,rfl⟩ := ru
      obtain ⟨_,rfl⟩ := rv
      exact SeqAt.RcNeAt.int_int _ _ _ _
    | str =>
      obtain ⟨_,rfl⟩ := ru
      obtain ⟨_,rfl⟩ := rv
      exact SeqAt.RcNeAt.int_str _ _ _ _
    | @tup m p' ys es e1 hl1 h1 =>
      obtain ⟨_,rfl⟩ := ru
      cases rv
      obtain ⟨jts,r2,pl',_⟩ := I.tuple (SqT.of e1)
      exact SeqAt.RcNeAt.int_tuple _ _ pl' (by omega)
    | @lst m p' ys es e1 hl1 h1 =>
      obtain ⟨_,rfl⟩ := ru
      cases rv
      obtain ⟨jts,r2,pl',_⟩ := I.list (SqL.of e1)
      exact SeqAt.RcNeAt.int_list _ _ pl'.isList (by omega)
  | str =>
    cases q with
    | non =>
      obtain ⟨_,rfl⟩ := ru
      cases rv
      exact SeqAt.RcNeAt.str_none _ _
    | bl =>
      obtain ⟨_,rfl⟩ := ru
      cases rv
      exact SeqAt.RcNeAt.str_bool _ _ _
    | int =>
      obtain ⟨_,rfl⟩ := ru
      obtain ⟨_,rfl⟩ := rv
      exact SeqAt.RcNeAt.str_int _ _ _ _
    | str =>
      obtain ⟨_,rfl⟩ := ru
      obtain ⟨_,rfl⟩ := rv
      exact SeqAt.RcNeAt.str_str _ _ _ _
    | @tup m p' ys es e1 hl1 h1 =>
      obtain ⟨_,rfl⟩ := ru
      cases rv
      obtain ⟨jts,r2,pl',_⟩ := I.tuple (SqT.of e1)
      exact SeqAt.RcNeAt.str_tuple _ _ pl' (by omega)
    | @lst m p' ys es e1 hl1 h1 =>
      obtain ⟨_,rfl⟩ := ru
      cases rv
      obtain ⟨jts,r2,pl',_⟩ := I.list (SqL.of e1)
      exact SeqAt.RcNeAt.str_list _ _ pl'.isList (by omega)
  | @tup n p xs ds e0 hl h =>
    cases q with
    | non =>
      cases ru
      cases rv
      obtain ⟨its,r1,pl,_⟩ := I.tuple (SqT.of e0)
      exact SeqAt.RcNeAt.tuple_none pl (by omega)
    | bl =>
      cases ru
      cases rv
      obtain ⟨its,r1,pl,_⟩ := I.tuple (SqT.of e0)
      exact SeqAt.RcNeAt.tuple_bool _ pl (by omega)
    | int =>
      cases ru
      obtain ⟨_,rfl⟩ := rv
      obtain ⟨its,r1,pl,_⟩ := I.tuple (SqT.of e0)
      exact SeqAt.RcNeAt.tuple_int _ _ pl (by omega)
    | str =>
      cases ru
      obtain ⟨_,rfl⟩ := rv
      obtain ⟨its,r1,pl,_⟩ := I.tuple (SqT.of e0)
      exact SeqAt.RcNeAt.tuple_str _ _ pl (by omega)
    | @tup m p' ys es e1 hl1 h1 =>
      cases ru
      cases rv
      obtain ⟨its,r1,pl,_⟩ := I.tuple (SqT.of e0)
      obtain ⟨jts,r2,pl',_⟩ := I.tuple (SqT.of e1)
      have y := SeqAt.RcNeAt.tuples (A := A) (e := fun j => deq (ds.getD j .non) (es.getD j .non)) pl pl' (by omega) (elts_at r1 r2 hl hl1 fun j x y d e u w a b c k ra rb => (h j x d a c).eqAt (h1 j y e b k) I ra rb (by show A.units + 1 + _ < cLine; omega))
      rw [List.size_toArray,List.size_toArray,← r1.length,← r2.length,hl,hl1,deqs_all] at y
      exact y
    | @lst m p' ys es e1 hl1 h1 =>
      cases ru
      cases rv
      obtain ⟨its,r1,pl,_⟩ := I.tuple (SqT.of e0)
      obtain ⟨jts,r2,pl',_⟩ := I.list (SqL.of e1)
      exact SeqAt.RcNeAt.tuple_list pl pl'.isList (by omega)
  | @lst n p xs ds e0 hl h =>
    cases q with
    | non =>
      cases ru
      cases rv
      obtain ⟨its,r1,pl,_⟩ := I.list (SqL.of e0)
      exact SeqAt.RcNeAt.list_none pl.isList (by omega)
    | bl =>
      cases ru
      cases rv
      obtain ⟨its,r1,pl,_⟩ := I.list (SqL.of e0)
      exact SeqAt.RcNeAt.list_bool _ pl.isList (by omega)
    | int =>
      cases ru
      obtain ⟨_,rfl⟩ := rv
      obtain ⟨its,r1,pl,_⟩ := I.list (SqL.of e0)
      exact SeqAt.RcNeAt.list_int _ _ pl.isList (by omega)
    | str =>
      cases ru
      obtain ⟨_,rfl⟩ := rv
      obtain ⟨its,r1,pl,_⟩ := I.list (SqL.of e0)
      exact SeqAt.RcNeAt.list_str _ _ pl.isList (by omega)
    | @tup m p' ys es e1 hl1 h1 =>
      cases ru
      cases rv
      obtain ⟨its,r1,pl,_⟩ := I.list (SqL.of e0)
      obtain ⟨jts,r2,pl',_⟩ := I.tuple (SqT.of e1)
      exact SeqAt.RcNeAt.list_tuple pl.isList pl' (by omega)
    | @lst m p' ys es e1 hl1 h1 =>
      cases ru
      cases rv
      obtain ⟨its,r1,pl,_⟩ := I.list (SqL.of e0)
      obtain ⟨jts,r2,pl',_⟩ := I.list (SqL.of e1)
      have g1 := r1.length
      have g2 := r2.length
      by_cases hz : ds.length = es.length
      · have y := SeqAt.RcNeAt.lists (A := A) (e := fun j => deq (ds.getD j .non) (es.getD j .non)) pl.isList pl'.isList (by rw [List.size_toArray,List.size_toArray]; omega) (by omega) (elts_at r1 r2 hl hl1 fun j x y d e u w a b c k ra rb => (h j x d a c).eqAt (h1 j y e b k) I ra rb (by show A.units + 1 + _ < cLine; omega))
        rw [List.size_toArray,← r1.length,hl,deqs_all' hz] at y
        exact y
      · rw [show deq (.lst ds) (.lst es) = false from deqs_len hz]
        exact SeqAt.RcNeAt.lists_lengths pl.isList pl'.isList (by rw [List.size_toArray,List.size_toArray]; simp; omega) (by omega)
end
section
variable {X : Cx}
inductive rEqD (neg : Bool) (x : V) (y : V) (H : Hp) (Q : VK) : Prop
  | mk : ∀ d e,(Rp H 9 x d) → (Rp H 9 y e) → (Q (.bl (if neg then !(deq d e) else deq d e)) H) → rEqD neg x y H Q
theorem op_eqD (hu : X.A.units + 10 < cLine) : OpR X (compareOp .Eq) (rEqD false) := by
  intro pins s σ H x y v u Q I rx ry h
  obtain ⟨d,e,rd,re,k⟩ := h
  exact rd.rcAt re I rx ry (by omega) _ _ _ _ ⟨.bl _,H,I,rfl,k⟩
theorem op_neD (hu : X.A.units + 10 < cLine) : OpR X (compareOp .NotEq) (rEqD true) := by
  intro pins s σ H x y v u Q I rx ry h
  obtain ⟨d,e,rd,re,k⟩ := h
  exact rd.rcNeAt re I rx ry (by omega) _ _ _ _ ⟨.bl _,H,I,rfl,k⟩
end
section
variable {H : Hp} {n : Nat} {p : Addr} {x y z w : V} {a b c d : D}
theorem Rp.t2 (e : H p = some (.tup [x,y])) (ha : Rp H n x a) (hb : Rp H n y b) : Rp H (n + 1) (.ref p) (.tup [a,b]) := .tup e rfl fun j x d h k => by
  match j with
  | 0 => cases h; cases k; exact ha
  | 1 => cases h; cases k; exact hb
  | j + 2 => simp at h
theorem Rp.l0 (e : H p = some (.lst [])) : Rp H (n + 1) (.ref p) (.lst []) := .lst e rfl fun j x d h => by simp at h
theorem Rp.l1 (e : H p = some (.lst [x])) (ha : Rp H n x a) : Rp H (n + 1) (.ref p) (.lst [a]) := .lst e rfl fun j x d h k => by
  match j with
  | 0 => cases h; cases k; exact ha
  | j + 1 => simp at h
mutual
theorem deq_self : ∀ d : D,deq d d = true
  | .non => rfl
  | .bl b => by simp [deq]
  | .int i => by simp [deq]
  | .str x => by simp [deq]
  | .tup ds => by simp only [deq]; exact deqs_same ds
  | .lst ds => by simp only [deq]; exact deqs_same ds
theorem deqs_same : ∀ ds : List D,deqs ds ds = true
  | [] => by simp [deqs]
  | d :: ds => by simp only [deqs,Bool.and_eq_true]; exact ⟨deq_self d,deqs_same ds⟩
end
end
end L2
namespace L2
open PySem PySem.Spec PyProof.Rows
section
variable {κ : Type} [DecidableEq κ]
end
section
variable {P : Program} {w : World} {H : Hp} {h : Heap} {a : Addr}
end
section
variable {X : Cx} {pins : List (Addr × Obj)} {σ : St} {H : Hp} {s : Shared} {a : Addr} {y v : V} {u r : Value} {o : Option V} {A : Around} {E : Value → Shared → Prop}
end
section
variable {X : Cx} {pins : List (Addr × Obj)} {σ : St} {H : Hp} {s : Shared} {a : Addr} {kvs : List (Key × V)} {k : Key} {u : Value} {A : Around} {E : Value → Shared → Prop}
end
section
variable {X : Cx} {o i e value : Expr} {pos pos' tpos : Pos} {td ty tv : TE}
end
section
variable {X : Cx} {pos : Pos}
end
section
variable {X : Cx} {pins : List (Addr × Obj)} {σ : St} {H : Hp} {s : Shared} {a : Addr} {y d : V} {u r : Value} {o : Option V} {A : Around} {E : Value → Shared → Prop}
end
section
variable {X : Cx} {o e f : Expr} {apos cpos : Pos} {td ty tx : TE}
end
section
variable {X : Cx} {pins : List (Addr × Obj)} {σ : St} {H : Hp} {s : Shared} {a : Addr} {kvs : List (Key × V)} {A : Around} {E : Value → Shared → Prop}
end
section
variable {X : Cx} {pins : List (Addr × Obj)} {σ : St} {H : Hp} {s : Shared} {a : Addr} {y : V} {u : Value} {A : Around} {E : Value → Shared → Prop}
end
end L2
namespace L2
open PySem PySem.Spec PyProof.Rows
section
variable {prog : Program} {w : World} {A : Around} {E : Value → Shared → Prop} {s : Shared} {it d : Addr} {i ep : Nat} {es : Array DictEntry} {od : Obj}
end
section
variable {X : Cx} {tg : Expr}
end
end L2
namespace PySem
namespace F
end F
section
variable {prog : Program} {w : World} {A : Around} {E : Value → Shared → Prop}
end
end PySem
namespace L2
open PySem PySem.Spec PyProof.Rows
theorem turn_range2 {P : Program} {w : World} {K : PySem.W.Frag} {tg : Expr} (it : Addr) (lo c : Int) (n : Nat) : Turn P w K tg ⟨fun i _ => i < n,fun i H x H' => H' = H ∧ x = .int (lo + i * c),fun i _ => n ≤ i⟩ [it] it (fun i h => IsRangeIter h it (lo + (i : Nat) * c) ((n : Int) - (i : Nat)) c) where
  mem := by simp
  obj := fun i h st b hb => by
    have e : b = it := by simpa using hb
    subst e; exact ⟨_,st,fun v z => by have z' : Data.fields _ = Data.cell v := z; cases z'⟩
  keep := fun i h h' st k => k it (by simp) _ st
  item := by
    intro X hP hw hK hc i pins s σ H E I hf st hg
    subst hP hw hK
    obtain ⟨f0,f1,f2,f3,f4,f5⟩ := hf it (by simp)
    have W := Walks.range (prog := X.prog) (w := X.w) (I.ok.hd hc) it lo c n
    refine W.item i s _ _ hg st fun v h' tk hv st' kk => ?_
    obtain ⟨t,rfl⟩ := hv
    have I1 : Inv X pins σ H { s with heap := h',toks := tk } := I.turned (fun b o hb e => kk b o (by simpa using hb) e) f0 f1 f3 f4 f5
    exact ⟨_,rfl,go_of (s := { s with heap := h',toks := tk }) (n := "range_iterator") st' rfl rfl (by decide) ⟨.int (lo + i * c),H,I1,⟨t,rfl⟩,⟨rfl,rfl⟩,st',fun b hb => (hf b hb).1⟩⟩
  done := by
    intro X hP hw hK hc i pins s σ H E I hf st hg
    subst hP hw hK
    obtain ⟨f0,f1,f2,f3,f4,f5⟩ := hf it (by simp)
    exact wpAny_pyNext_range_end (I.ok.hd hc) st (by have : n ≤ i := hg; omega) fun h' eb => ⟨rfl,I.turned (t' := s.toks) (fun b o hb e => eb b o hb e) f0 f1 f3 f4 f5⟩
  self := fun _ _ _ _ _ st h => wpAny_pyIter_rangeiter st h
end L2
namespace L2
open PySem PySem.Spec PyProof.Rows
structure CompM (X : Cx) (scope : Scope) (cl : List (Str × Addr)) (xs : List Str) (fv : List (Str × Nat)) : Prop where
  clos : closureFor scope X.env = pure cl
  kind : scope.kind = .function
  cell : ∀ y ∈ scope.names,y.2 ≠ .cell
  names : ∀ y ∈ scope.names,y.2 = .local → scope.names.lookup y.1 = some .local
  own : ∀ x ∈ xs,scope.names.lookup x = some .local
  cells : ∀ p ∈ cl,X.env.cells.lookup p.1 = some p.2
  has : ((relabel scope X.env).names.all fun q => !(q.2 == .cell || q.2 == .free) || (cl.lookup q.1).isSome) = true
  nd : (xs ++ fv.map (·.1)).Nodup
  slot : ∀ p ∈ fv,X.N[p.2]? = some p.1 ∧ X.env.kindOf p.1 = some .cell ∧ Vis X.env.scope p.1 ∧ (cl.lookup p.1).isSome = true ∧ ((relabel scope X.env).names.lookup p.1 = some .cell)
  stk : X.stack = X.env :: X.outer ∧ X.env.frame = some X.env.locals
  noex : X.ex = []
def PTs (X : Cx) (ifs : List Expr) (tc : TT) : Prop :=
  ∀ (pins : List (Addr × Obj)) (s : Shared) (σ : St) (H : Hp) (Q : Bool → Hp → Prop),Inv X pins σ H s → tc σ H Q →
    wpAny (model X.prog X.w) X.A (forIn ifs true fun c r => if r = true then do let ok ← isTrue c X.env (eval c X.env); pure (ForInStep.yield ok) else pure (ForInStep.yield r)) (fun b s' => ∃ H',Inv X pins σ H' s' ∧ Q b H') X.xe s
theorem pts_one {X : Cx} {c : Expr} {tc : TT} (h : PT X c tc) : PTs X [c] tc := fun pins s σ H Q I q => wpAny_tests_one (h pins s σ H Q I q)
theorem compLoop_go {prog : Program} {w : World} {A : Around} {R : Result → Shared → Prop} {s : Shared} {elt target iter : Expr} {ifs : List Expr} {scope : Scope} {pos : Pos} {it acc : Value} {env : Env} (I : Nat → Shared → Prop)
    (turn : ∀ n s,I n s → wpAny (model prog w) A (pyNext it) (fun r s₁ => match r with
      | none => R (.ok .next) s₁
      | some v => wpAny (model prog w) A (letOwnedTupleGo target it v) (fun _ s₀ => wpAny (model prog w) A (assign target env v) (fun _ s₂ =>
          wpAny (model prog w) A (forIn ifs true fun c r => if r = true then do let ok ← isTrue c env (eval c env); pure (ForInStep.yield ok) else pure (ForInStep.yield r)) (fun ok s₃ =>
            if ok = true then wpAny (model prog w) A (eval elt env) (fun x s₄ =>
              wpAny (model prog w) A (call (.builtin "list.append") [acc,x]) (fun _ s₅ => ∃ m,m < n ∧ I m s₅) (notedBy (model prog w) A env fun e s' => R (.error e) s') s₄) (notedBy (model prog w) A env fun e s' => R (.error e) s') s₃
            else ∃ m,m < n ∧ I m s₃) (notedBy (model prog w) A env fun e s' => R (.error e) s') s₂) (notedBy (model prog w) A env fun e s' => R (.error e) s') s₀) (notedBy (model prog w) A env fun e s' => R (.error e) s') s₁) (notedBy (model prog w) A env fun e s' => R (.error e) s') s)
    (n : Nat) (h : I n s) : codeAny (model prog w) A (.compLoop (.ListComp elt [⟨target,iter,ifs,0⟩] scope pos) 0 it acc env) R s := by
  refine codeAny_loop rfl I (fun n s hI => ?_) n h
  show wpAny _ A ((compTurn (.ListComp elt [⟨target,iter,ifs,0⟩] scope pos) 0 it acc env).onRaise (fun x => do noteFrame x env; theTreesLotGoes x)) _ _ s
  refine wpAny_noted ?_
  rw [compTurn_list]
  refine wpAny_bind (wpAny_standAt (wpAny_bind (wpAny_mono (turn n s hI) (fun r s₁ h₁ => ?_) fun _ _ h' => h')))
  cases r with
  | none => exact wpAny_pure h₁
  | some v =>
    refine wpAny_bind (wpAny_mono h₁ (fun _ s₀ h₀ => ?_) fun _ _ h' => h')
    refine wpAny_bind (wpAny_mono h₀ (fun _ s₂ h₂ => wpAny_bind (wpAny_mono h₂ (fun ok s₃ h₃ => ?_) fun _ _ h' => h')) fun _ _ h' => h')
    cases ok with
    | false => exact wpAny_pure ⟨rfl,h₃⟩
    | true => exact wpAny_bind (wpAny_bind (wpAny_mono h₃ (fun x s₄ h₄ => wpAny_bind (wpAny_mono h₄ (fun _ s₅ h₅ => wpAny_pure (wpAny_pure ⟨rfl,h₅⟩)) fun _ _ h' => h')) fun _ _ h' => h'))
def CompAtG (J : It) (n : Nat) (fv : List (Str × Nat)) (g : TG) (tc : TT) (te : TE) (σ : St) (H1 : Hp) (Q : VK) : Prop := ∀ p,H1 p = none → ∃ W : Nat → Nat → List V → Hp → Prop,(∃ m,W 0 m [] (upd H1 p (.lst []))) ∧ ∀ i m acc H2,W i m acc H2 →
  H2 p = some (.lst acc) ∧ acc.length < sizeLine ∧ ((J.stop i H2 ∧ Q (.ref p) H2) ∨ (J.go i H2 ∧ ∀ x H3,J.yld i H2 x H3 → ∀ τ : St,τ.length = n → g x (τ ++ fvs fv σ) H3 fun σ2 H4 => (∃ τ' : St,τ'.length = n ∧ σ2 = τ' ++ fvs fv σ) ∧
    tc σ2 H4 fun b H5 => if b = true then te σ2 H5 (fun y H6 => H6 p = some (.lst acc) ∧ ∃ m',m' < m ∧ W (i + 1) m' (acc ++ [y]) (upd H6 p (.lst (acc ++ [y])))) else ∃ m',m' < m ∧ W (i + 1) m' acc H5))
def tCompG (wi : TI) (n : Nat) (fv : List (Str × Nat)) (g : TG) (tc : TT) (te : TE) : TE := fun σ H Q => wi σ H fun J H1 => CompAtG J n fv g tc te σ H1 Q
section
variable {X : Cx} {scope : Scope} {cl : List (Str × Addr)} {xs : List Str} {fv : List (Str × Nat)} {elt iter tg : Expr} {ifs : List Expr} {pos : Pos} {te : TE} {tc : TT} {g : TG}
theorem blk_okG {pins : List (Addr × Obj)} {σ : St} {H : Hp} {s : Shared} {fp : List Addr} (C : CompM X scope cl xs fv) (I : Inv X pins σ H s) (hf : ∀ b ∈ fp,FpOk X pins H b) (ho : ∀ b ∈ fp,b < s.heap.objs.size) : (X.blk (xs ++ fv.map (·.1)) scope cl fp s H).Ok := by
  have hcl : ∀ y c,cl.lookup y = some c → X.env.cells.lookup y = some c := fun y c h => C.cells _ (lookup_mem h)
  have old : ∀ b ∈ fp,X.s₀.heap.objs.size ≤ b := fun b hb => by
    rcases (hf b hb).2.2.2.1 with z | z
    · rw [C.noex] at z
      cases z
    · exact z
  refine ⟨I.ok.mod,by show (relabel scope X.env).kind = _; exact C.kind,I.ok.glob,I.ok.blt,Nat.le_refl _,fun y z c h1 h2 => I.ok.inj y z c (hcl y c h1) (hcl z c h2),fun y hy => ?_,(fun y c h => by cases h),I.ok.hd,I.ok.frames,.inl rfl,fun b hb => ?_,fun b o e => I.bs b o e,Nat.le_trans I.ok.bsz I.sz,fun b o e hb => ?_,fun b hb hm => ?_,I.stack,I.stkFree⟩
  · have q := C.has
    rw [List.all_eq_true] at q
    have hm : ∃ k,(y,k) ∈ (relabel scope X.env).names ∧ (k = .cell ∨ k = .free) := by
      rcases hy with hy | hy
      · exact ⟨_,lookup_mem hy,.inl rfl⟩
      · exact ⟨_,lookup_mem hy,.inr rfl⟩
    obtain ⟨k,hk,hk2⟩ := hm
    have q2 := q _ hk
    have q3 : (cl.lookup y).isSome = true := by
      rcases hk2 with rfl | rfl
      · simpa using q2
      · simpa using q2
    exact Option.isSome_iff_exists.mp q3
  · obtain ⟨f0,f1,f2,f3,f4,f5⟩ := hf b hb
    refine ⟨?_,fun y c h => f4 y c (hcl y c h)⟩
    exact Nat.ne_of_lt (ho b hb)
  · have z := Heap.lt_size e
    have z2 := old b hb
    exact absurd (Nat.lt_of_lt_of_le z (Nat.le_trans I.ok.bsz z2)) (Nat.lt_irrefl _)
  · obtain ⟨f0,f1,f2,f3,f4,f5⟩ := hf b hb
    rcases List.mem_cons.mp (I.stkSub b hm) with z | z
    · exact f1 z
    · exact f2 z
theorem blk_invG {pins : List (Addr × Obj)} {σ : St} {H : Hp} {s s4 : Shared} {fp : List Addr} (C : CompM X scope cl xs fv) (I : Inv X pins σ H s) (hf : ∀ b ∈ fp,FpOk X pins H b) (ho : ∀ b ∈ fp,b < s.heap.objs.size)
    (hs : s4.os = s.os ∧ s4.gens = s.gens) (ns : s4.heap.Ns s.heap.objs.size fun _ => none) (kp : ∀ b o,s.heap.get? b = some o → s4.heap.get? b = some o) :
    Inv (X.blk (xs ++ fv.map (·.1)) scope cl fp s H) [] (List.replicate xs.length none ++ fvs fv σ) H s4 := by
  have hcl : ∀ y c,cl.lookup y = some c → X.env.cells.lookup y = some c := fun y c h => C.cells _ (lookup_mem h)
  refine ⟨blk_okG C I hf ho,hs.1,by rw [hs.2]; exact I.bare,Un.kept kp,⟨_,ns,fun i y v e1 e2 e3 => ?_⟩,fun y c h => ?_,I.hok.fresh (Nat.le_refl _),fun y c h => I.freeC y c (hcl y c h),fun p hp => by simp at hp,I.hok.kept kp,by simp [fvs]⟩
  · by_cases hi : i < xs.length
    · rw [List.getElem?_append_left (by rw [List.length_replicate]; exact hi),List.getElem?_replicate] at e2
      simp [hi] at e2
    · obtain ⟨j,rfl⟩ : ∃ j,i = xs.length + j := ⟨i - xs.length,by omega⟩
      have e1' : (fv.map (·.1))[j]? = some y := by
        have z : (xs ++ fv.map (·.1))[xs.length + j]? = some y := e1
        rw [List.getElem?_append_right (by omega)] at z
        simpa using z
      have e2' : (fvs fv σ)[j]? = some (some v) := by
        rw [List.getElem?_append_right (by rw [List.length_replicate]; omega),List.length_replicate] at e2
        simpa using e2
      rw [List.getElem?_map] at e1'
      unfold fvs at e2'
      rw [List.getElem?_map] at e2'
      cases hq : fv[j]? with
      | none =>
        rw [hq] at e1'
        cases e1'
      | some q =>
        rw [hq] at e1' e2'
        have ey : q.1 = y := Option.some.inj e1'
        have ev : (σ[q.2]?).join = some v := Option.some.inj e2'
        have hm : q ∈ fv := List.mem_of_getElem? hq
        obtain ⟨s1,s2,s3,s4',s5⟩ := C.slot q hm
        have ev2 : σ[q.2]? = some (some v) := by
          cases hz : σ[q.2]? with
          | none =>
            rw [hz] at ev
            cases ev
          | some z =>
            rw [hz] at ev
            have ev' : z = some v := ev
            rw [ev']
        obtain ⟨m,hn,hl⟩ := I.loc
        obtain ⟨u,r,lk⟩ := hl q.2 q.1 v s1 ev2 s3
        obtain ⟨c,hc⟩ := Option.isSome_iff_exists.mp s4'
        refine ⟨u,r,.inr ⟨.inl (by rw [← ey]; exact s5),c,by rw [← ey]; exact hc,?_⟩⟩
        rcases lk with ⟨k,_⟩ | ⟨_,c',hc',z⟩
        · rw [s2] at k
          cases k
        · rw [hcl _ _ hc] at hc'
          cases hc'
          obtain ⟨o,ho',hd⟩ := z
          exact ⟨o,kp _ _ ho',hd⟩
  · obtain ⟨v,o,ho',hd⟩ := I.cell y c (hcl y c h)
    exact ⟨v,o,kp _ _ ho',hd⟩
theorem blk_runG {pins : List (Addr × Obj)} {σ : St} {H2 : Hp} {s2 : Shared} {it : Addr} {fp : List Addr} {tn : Nat → Heap → Prop} {J : It} {RR : Value → Addr → Result → Shared → Prop} {E : Value → Shared → Prop} {Qf : V → Hp → Prop}
    (hcalm : X.calm = true) (C : CompM X scope cl xs fv) (I2 : Inv X pins σ H2 s2) (T : Turn X.prog X.w X.K tg J fp it tn) (st : tn 0 s2.heap) (f2 : ∀ b ∈ fp,FpOk X pins H2 b)
    (rd : CompAtG J xs.length fv g tc te σ H2 Qf)
    (hg : ∀ (s₀ : Shared) (H₀ : Hp),PG (X.blk (xs ++ fv.map (·.1)) scope cl fp s₀ H₀) tg g) (ht : ∀ (s₀ : Shared) (H₀ : Hp),PTs (X.blk (xs ++ fv.map (·.1)) scope cl fp s₀ H₀) ifs tc)
    (he : ∀ (s₀ : Shared) (H₀ : Hp),PE (X.blk (xs ++ fv.map (·.1)) scope cl fp s₀ H₀) elt te)
    (hRR : ∀ (p C : Addr) (H' : Hp) (s' : Shared),(∃ m,s'.heap.Ns C m) → C ≠ X.env.locals → H' C = none → X.s₀.heap.objs.size ≤ C → (∀ y c,X.env.cells.lookup y = some c → c ≠ C) → (∀ q ∈ X.pn ++ pins,q.1 ≠ C) → Inv X pins σ H' s' → Qf (.ref p) H' → RR (.ref p) C (.ok .next) s') :
    wpAny (model X.prog X.w) X.A (newList []) (fun acc s₃ => wpAny (model X.prog X.w) X.A (newFunctionEnv scope X.env.globals cl [] X.env.qual none .none (some X.env)) (fun cenv s₄ =>
      codeAny (model X.prog X.w) X.A (.compStart (.ListComp elt [⟨tg,iter,ifs,0⟩] scope pos) 0 (.ref it) acc { cenv with scope := relabel scope X.env }) (RR acc cenv.locals) s₄) E s₃) E s2 := by
  refine wpAny_newObj_type ?_
  have hfresh := I2.fresh
  have I3 : Inv X pins σ (upd H2 s2.heap.objs.size (.lst [])) { s2 with heap := s2.heap.push { cls := .type "list",data := .seq ([] : List Value).toArray } } :=
    I2.laid (t' := s2.toks) (fun b u q => Heap.get?_push_of_some _ q) (Nat.le_refl _) ⟨Nat.zero_le _,[],0,.nil,Heap.get?_push_size _ rfl⟩
  generalize hs3 : ({ s2 with heap := s2.heap.push { cls := .type "list",data := .seq ([] : List Value).toArray } } : Shared) = s3 at I3 ⊢
  have hp3 : s2.heap.objs.size < s3.heap.objs.size := by rw [← hs3]; exact Nat.lt_of_lt_of_le (Nat.lt_succ_self _) (Nat.le_of_eq (Heap.size_push _ _).symm)
  have k23 : ∀ b o,s2.heap.get? b = some o → s3.heap.get? b = some o := fun b o e => by rw [← hs3]; exact Heap.get?_push_of_some _ e
  have fpo : ∀ b ∈ fp,b < s2.heap.objs.size := fun b hb => by
    obtain ⟨o,e,_⟩ := T.obj 0 _ st b hb
    exact Heap.lt_size e
  have f3 : ∀ b ∈ fp,FpOk X pins (upd H2 s2.heap.objs.size (.lst [])) b := fun b hb => ⟨by rw [upd_ne (Nat.ne_of_lt (fpo b hb))]; exact (f2 b hb).1,(f2 b hb).2⟩
  refine wpAny_newFunctionEnv C.cell (by intro y hy; simp at hy) (fun h1 hns1 hsb1 => ?_) C.kind
  have kp : ∀ b o,s3.heap.get? b = some o → h1.get? b = some o := fun b o e => (hsb1.2 b (Nat.ne_of_lt (Heap.lt_size e))).trans (Heap.get?_push_of_some _ e)
  have I4 := blk_invG (s4 := { s3 with heap := h1,toks := s3.toks + ([] : List (Str × Value)).length }) C I3 f3 (fun b hb => Nat.lt_trans (fpo b hb) hp3) ⟨rfl,rfl⟩ hns1 kp
  have st4 : tn 0 h1 := T.keep 0 _ _ st fun b _ o e => kp b o (k23 b o e)
  obtain ⟨W,⟨m0,w0⟩,step⟩ := rd _ hfresh
  have loop : codeAny (model X.prog X.w) X.A (.compLoop (.ListComp elt [⟨tg,iter,ifs,0⟩] scope pos) 0 (.ref it) (.ref s2.heap.objs.size) (compEnvC scope cl s3.heap.objs.size X.env)) (RR (.ref s2.heap.objs.size) s3.heap.objs.size)
      { s3 with heap := h1,toks := s3.toks + ([] : List (Str × Value)).length } := by
    refine compLoop_go (fun n s => ∃ i acc τ H',τ.length = xs.length ∧ Inv (X.blk (xs ++ fv.map (·.1)) scope cl fp s3 (upd H2 s2.heap.objs.size (.lst []))) [] (τ ++ fvs fv σ) H' s ∧ tn i s.heap ∧ (∀ b ∈ fp,H' b = none) ∧ W i n acc H') ?_ m0 ⟨0,[],List.replicate xs.length none,_,List.length_replicate,I4,st4,fun b hb => (f3 b hb).1,w0⟩
    rintro n s ⟨i,acc,τ,H',hτ,I',st',fr',w'⟩
    obtain ⟨hp,hlen,alt⟩ := step i n acc H' w'
    have fpk : ∀ {H5 : Hp},(∀ b ∈ fp,H5 b = none) → ∀ b ∈ fp,FpOk (X.blk (xs ++ fv.map (·.1)) scope cl fp s3 (upd H2 s2.heap.objs.size (.lst []))) [] H5 b := fun h5 b hb =>
      ⟨h5 b hb,(I'.ok.exf b hb).1,I'.ok.exfs b hb,.inl hb,fun y c e => (I'.ok.exf b hb).2 y c e,fun q hq => by simp at hq⟩
    rcases alt with ⟨stop,qf⟩ | ⟨go,turn⟩
    · refine wpAny_mono (T.done (X.blk (xs ++ fv.map (·.1)) scope cl fp s3 (upd H2 s2.heap.objs.size (.lst []))) rfl rfl rfl hcalm i [] s _ H' (fun _ _ => False) I' (fpk fr') st' stop) (fun r s5 ⟨hr,I5⟩ => ?_) fun _ _ z => False.elim z
      subst hr
      refine hRR _ _ H' s5 (let ⟨m,hn,_⟩ := I5.loc; ⟨m,hn⟩) (Nat.ne_of_gt I3.lt) I5.free I3.sz (fun y c e => ?_) (fun q hq => ?_) ?_ qf
      · obtain ⟨v,z⟩ := I3.cell y c e
        exact Nat.ne_of_lt z.lt
      · exact Nat.ne_of_lt (Heap.lt_size (I3.pin q hq).1)
      · exact I3.call' (s' := s5) (ch := fp) I5.os I5.base I5.hok I5.bare fun b hb => ⟨(f2 b hb).2.2.2.1,(f2 b hb).2.1,(f2 b hb).2.2.2.2.1,(f2 b hb).2.2.2.2.2⟩
    · refine wpAny_mono (T.item (X.blk (xs ++ fv.map (·.1)) scope cl fp s3 (upd H2 s2.heap.objs.size (.lst []))) rfl rfl rfl hcalm i [] s _ H' (fun _ _ => False) I' (fpk fr') st' go) (fun r s5 ⟨u,hr,h5⟩ => ?_) fun _ _ z => False.elim z
      subst hr
      refine wpAny_mono h5 (fun _ s6 ⟨y,H6,I6,r6,y6,st6,fr6⟩ => ?_) fun _ _ z => False.elim z
      have I6' := I6.pinned (fpk fr6) (T.obj _ _ st6)
      have rt := turn y _ y6 τ hτ
      refine wpAny_mono (hg s3 _ _ s6 _ H6 y u _ I6' r6 rt) (fun _ s7 ⟨σ7,H7,I7,⟨τ',hτ',e7⟩,q7⟩ => ?_) fun _ _ z => False.elim z
      subst e7
      refine wpAny_mono (ht s3 _ _ s7 _ _ _ I7 q7) (fun b s7b ⟨H7b,I7b,q7b⟩ => ?_) fun _ _ z => False.elim z
      have kp6 : ∀ {σ9 : St} {H9 : Hp} {s9 : Shared},Inv (X.blk (xs ++ fv.map (·.1)) scope cl fp s3 (upd H2 s2.heap.objs.size (.lst []))) ([] ++ pinsAt fp s6.heap) σ9 H9 s9 → tn (i + 1) s9.heap ∧ ∀ b ∈ fp,H9 b = none := fun {σ9 H9 s9} I9 => by
        refine ⟨T.keep _ _ _ st6 fun b hb o e => (I9.pin (b,o) (List.mem_append_right _ (List.mem_append_right _ (mem_pinsAt hb e)))).1,fun b hb => ?_⟩
        obtain ⟨o,e,d⟩ := T.obj _ _ st6 b hb
        exact (I9.pin (b,o) (List.mem_append_right _ (List.mem_append_right _ (mem_pinsAt hb e)))).2.1
      cases b with
      | false =>
        obtain ⟨m',hm',w8⟩ := q7b
        exact ⟨m',hm',i + 1,acc,τ',_,hτ',I7b.unpinned,(kp6 I7b).1,(kp6 I7b).2,w8⟩
      | true =>
        refine wpAny_mono (he s3 _ _ s7b _ _ _ I7b q7b) (fun v8 s8 ⟨y8,H8,I8,r8,q8,m',hm',w8⟩ => ?_) fun _ _ z => False.elim z
        refine wpAny_mono (mt_append (X := X.blk (xs ++ fv.map (·.1)) scope cl fp s3 (upd H2 s2.heap.objs.size (.lst []))) _ s8 _ H8 (.ref s2.heap.objs.size) [y8] (.ref s2.heap.objs.size) [v8] (fun _ H9 => H9 = upd H8 s2.heap.objs.size (.lst (acc ++ [y8]))) I8 rfl (.cons r8 .nil) ⟨_,acc,y8,rfl,rfl,q8,hlen,rfl⟩) (fun _ s9 ⟨_,H9,I9,_,e9⟩ => ?_) fun _ _ z => False.elim z
        subst e9
        exact ⟨m',hm',i + 1,acc ++ [y8],τ',_,hτ',I9.unpinned,(kp6 I9).1,(kp6 I9).2,w8⟩
  exact codeAny_compStart_list loop (T.self _ 0 _ _ _ st4 loop)
theorem pe_compG {wi : TI} (hcalm : X.calm = true) (C : CompM X scope cl xs fv) (hi : PI X tg iter wi) (hg : ∀ (fp : List Addr) (s₀ : Shared) (H₀ : Hp),PG (X.blk (xs ++ fv.map (·.1)) scope cl fp s₀ H₀) tg g) (ht : ∀ (fp : List Addr) (s₀ : Shared) (H₀ : Hp),PTs (X.blk (xs ++ fv.map (·.1)) scope cl fp s₀ H₀) ifs tc) (he : ∀ (fp : List Addr) (s₀ : Shared) (H₀ : Hp),PE (X.blk (xs ++ fv.map (·.1)) scope cl fp s₀ H₀) elt te)
    (hs : ∀ v,foldedSetIterable iter X.env v = pure v := by intro _; rfl) : PE X (.ListComp elt [⟨tg,iter,ifs,0⟩] scope pos) (tCompG wi xs.length fv g tc te) := by
  intro pins s σ H Q I h
  rw [eval_ListComp]
  refine wpAny_comprehension_free (use := none) rfl hs C.clos C.kind C.names (wpAny_mono (hi pins s σ H _ I h) (fun v s1 h1 => wpAny_mono h1 (fun itv s2 h2 => ?_) fun _ _ z => z) fun _ _ z => z)
  obtain ⟨it,fp,tn,J,H2,rfl,I2,T,st2,f2,rd⟩ := h2
  refine blk_runG (Qf := Q) hcalm C I2 T st2 f2 rd (hg fp) (ht fp) (he fp) fun p D H' s' ns nL nH n0 nC nP I8 q => ?_
  obtain ⟨m,hn⟩ := ns
  exact ⟨m,hn,fun h'' sb => ⟨.ref p,H',I8.turned (t' := s'.toks) (fun b o hb e => (sb.2 b hb).trans e) nH nL (.inr n0) nC nP,rfl,q⟩⟩
theorem ps_setCompG {wi : TI} {y : Str} {j : Nat} {py spos : Pos} (hcalm : X.calm = true) (C : CompM X scope cl xs fv) (hN : X.N.Nodup) (hj : X.N[j]? = some y) (hy : X.env.scope.names.lookup y = some .local) (hi : PI X tg iter wi) (hg : ∀ (fp : List Addr) (s₀ : Shared) (H₀ : Hp),PG (X.blk (xs ++ fv.map (·.1)) scope cl fp s₀ H₀) tg g) (ht : ∀ (fp : List Addr) (s₀ : Shared) (H₀ : Hp),PTs (X.blk (xs ++ fv.map (·.1)) scope cl fp s₀ H₀) ifs tc) (he : ∀ (fp : List Addr) (s₀ : Shared) (H₀ : Hp),PE (X.blk (xs ++ fv.map (·.1)) scope cl fp s₀ H₀) elt te)
    (hsw : swapsWith (.ListComp elt [⟨tg,iter,ifs,0⟩] scope pos) (some (.Name y py)) spos.line X.env = pure true := by rfl)
    (hs : ∀ v,foldedSetIterable iter X.env v = pure v := by intro _; rfl) : PS X (.Assign [.Name y py] (.ListComp elt [⟨tg,iter,ifs,0⟩] scope pos) spos) (tAsg (tCompG wi xs.length fv g tc te) (gName j)) := by
  intro pins s σ H D I h
  rw [exec_Assign_Name_used _ _ _ _ hsw]
  refine wpAny_bind (wpAny_standAt (wpAny_bind ?_))
  show wpAny _ _ (do let _ ← comprehension (.ListComp elt [⟨tg,iter,ifs,0⟩] scope pos) scope X.env _ (newList []) false (eval iter X.env) (some (assign (.Name y py) X.env))) _ _ s
  refine wpAny_bind (wpAny_mono (wpAny_comprehension_free (use := some (assign (.Name y py) X.env)) (Q := fun _ s' => SP X pins D .next s') rfl hs C.clos C.kind C.names
    (wpAny_mono (hi pins s σ H _ I h) (fun v s1 h1 => wpAny_mono h1 (fun itv s2 h2 => ?_) fun _ _ z => z) fun _ _ z => z)) (fun _ s' hq => wpAny_pure (wpAny_pure hq)) fun _ _ z => z)
  obtain ⟨it,fp,tn,J,H2,rfl,I2,T,st2,f2,rd⟩ := h2
  refine blk_runG (Qf := fun v H' => gName j v σ H' D.nx) hcalm C I2 T st2 f2 rd (hg fp) (ht fp) (he fp) fun p D' H' s' ns nL nH n0 nC nP I8 q => ?_
  obtain ⟨m,hn⟩ := ns
  show wpAny _ _ (assign (.Name y py) X.env (.ref p)) _ _ _
  refine wpAny_assign_Name (store_ok2 I8 hN hj (.inl hy) (v := .ref p) rfl (fun s9 I9 ⟨a,sb,ha⟩ => ?_) (.inr hy))
  have aD : D' ≠ a := by
    rintro rfl
    rcases ha with z | z
    · exact nL z
    · exact nC y _ z rfl
  exact ⟨m,hn.sameBut sb aD,fun h'' sb2 => ⟨_,H',I9.turned (t' := s9.toks) (fun b o hb e => (sb2.2 b hb).trans e) nH nL (.inr n0) nC nP,q⟩⟩
end
end L2
namespace L2
open PySem PySem.Spec PyProof.Rows
section
variable {M : Model} {A : Around} {E : Value → Shared → Prop} {s : Shared}
end
end L2
namespace L2
open PySem PySem.Spec PyProof.Rows
section
variable {P : Program} {w : World} {K : PySem.W.Frag} {mg : Str → Option Value} {base : Heap} {N : List Str} {qual : Str} {scope : Scope} {f : Addr} {cdv : Value} {A : Around} {outer : List Env} {s₀ : Shared} {H₀ : Hp} {E : XK}
end
end L2
namespace L2
open PySem PySem.Spec PyProof.Rows
section
variable {X : Cx} {scope : Scope} {cl : List (Str × Addr)} {x : Str} {fv : List (Str × Nat)} {elt iter : Expr} {px pos : Pos} {te : TE}
end
section
variable {P : Program} {w : World} {K : PySem.W.Frag} {mg : Str → Option Value} {base : Heap} {N : List Str} {qual : Str} {scope' : Scope} {f : Addr} {cdv : Value} {A : Around} {outer : List Env} {s₀ : Shared} {H₀ : Hp} {E : XK}
variable {scope : Scope} {cl : List (Str × Addr)} {x : Str} {fv : List (Str × Nat)} {elt iter : Expr} {px pos : Pos} {te : TE}
end
end L2
namespace L2
open PySem PySem.Spec PyProof.Rows
end L2
namespace Dr
open PySem PySem.Spec L2 Mth Sp1 Sp2 Sp3 Sp7
end Dr
namespace Dr
open PySem PySem.Spec L2 Mth Sp1 Sp2 Sp3 Sp7
end Dr
namespace Dr
open PySem
end Dr
namespace PySem
namespace F
end F
section
variable {prog : Program} {w : World} {A : Around} {E : Value → Shared → Prop} {s : Shared}
end
end PySem
namespace L2
open PySem PySem.Spec PyProof.Rows
section
variable {X : Cx} {e : Expr} {te : TE} {p1 p2 q1 q2 : Pos}
end
section
variable {X : Cx}
end
end L2
namespace L2
open PySem PySem.Spec PyProof.Rows
theorem sliceRange_rev (n : Nat) : sliceRange ((n : Int) - 1) (-1) (-1) = (List.range n).map fun k => n - 1 - k := by
  unfold sliceRange
  have e : (if ((-1 : Int) > 0) then (if (n : Int) - 1 < -1 then (-1 - ((n : Int) - 1) + -1 - 1) / -1 else 0) else (if (n : Int) - 1 > -1 then ((n : Int) - 1 - -1 - -1 - 1) / - -1 else 0)).toNat = n := by
    rw [if_neg (by decide)]
    split
    · rw [show - (-1 : Int) = 1 from rfl,Int.ediv_one]
      omega
    · omega
  show List.map (fun k : Nat => ((n : Int) - 1 + -1 * (k : Int)).toNat) (List.range (if ((-1 : Int) > 0) then (if (n : Int) - 1 < -1 then (-1 - ((n : Int) - 1) + -1 - 1) / -1 else 0) else (if (n : Int) - 1 > -1 then ((n : Int) - 1 - -1 - -1 - 1) / - -1 else 0)).toNat) = _
  rw [e]
  refine List.map_congr_left fun k _ => ?_
  omega
theorem slicePick_rev (its : List Value) : slicePick its.toArray none none (some (-1)) = its.reverse.toArray := by
  unfold slicePick
  have b : sliceBounds none none (some (-1)) its.toArray.size = ((its.length : Int) - 1,-1,-1) := by
    unfold sliceBounds
    simp
  rw [b]
  show (List.filterMap (fun x => its.toArray[x]?) (sliceRange ((its.length : Int) - 1) (-1) (-1))).toArray = _
  rw [sliceRange_rev]
  congr 1
  have key : ∀ (l : List Value),List.filterMap (fun x => l[x]?) ((List.range l.length).map fun k => l.length - 1 - k) = l.reverse := by
    intro l
    have e2 : (List.range l.length).map (fun k => l.length - 1 - k) = (List.range l.length).reverse := by
      refine List.ext_getElem? fun i => ?_
      by_cases hi : i < l.length
      · rw [List.getElem?_map,List.getElem?_range hi,List.getElem?_reverse (by simpa using hi),List.length_range,List.getElem?_range (by omega)]
        rfl
      · rw [List.getElem?_eq_none (by simp; omega),List.getElem?_eq_none (by simp; omega)]
    rw [e2,List.filterMap_reverse]
    congr 1
    have this : ∀ (l : List Value),List.filterMap (fun x => l[x]?) (List.range l.length) = l := by
      intro l
      have h : ∀ n,n ≤ l.length → List.filterMap (fun x => l[x]?) (List.range n) = l.take n := by
        intro n
        induction n with
        | zero => intro _; rfl
        | succ n ih =>
          intro hn
          rw [List.range_succ,List.filterMap_append,ih (by omega),List.take_succ]
          congr 1
      rw [h _ (Nat.le_refl _),List.take_length]
    exact this l
  have k2 := key its
  simpa using k2
section
variable {X : Cx} {e : Expr} {te : TE} {st : Expr} {ts : TO} {pos p2 : Pos}
def tRevS (K : PySem.W.Frag) (te : TE) (ts : TO) : TE := fun σ H Q => te σ H fun x H1 => ts σ H1 fun o H2 => o = some (-1) ∧ ∃ a xs,x = .ref a ∧ SqL K H2 a xs ∧ ∀ p H3,Same H2 H3 → H3 p = some (.lst xs.reverse) → H2 p = none → Q (.ref p) H3
theorem pe_sliceR (he : PE X e te) (hs : PO X (some st) ts) : PE X (.Subscript e (.Slice none none (some st) p2) pos) (tRevS X.K te ts) := by
  intro pins s σ H Q I h
  refine Subscript_ (thn (he pins s σ H _ I h) fun v s1 ⟨x,H1,I1,r1,q1⟩ => ?_)
  refine wpAny_Slice ?_
  rw [evalPart_none]
  refine wpAny_pure ?_
  refine wpAny_pure ?_
  refine thn (hs pins s1 σ H1 _ I1 q1) fun vs s3 ⟨o,H3,I3,ps,q3⟩ => ?_
  obtain ⟨rfl,a,xs,rfl,hx,q⟩ := q3
  have I4 : Inv X pins σ H3 { s3 with heap := s3.heap.push { cls := .type "slice",data := .fields #[.none,.none,vs] } } := I3.kept (t' := s3.toks) fun b ob q => Heap.get?_push_of_some _ q
  cases r1
  obtain ⟨its,r,ht,hz⟩ := I4.list hx
  show wpAny (model X.prog X.w) X.A (subscriptTail e (.Slice none none (some st) p2) (.ref a) (.ref s3.heap.objs.size)) (EP X pins σ Q) X.xe { s3 with heap := s3.heap.push { cls := .type "slice",data := .fields #[.none,.none,vs] } }
  refine tail_any (ops := [.ref a,.ref s3.heap.objs.size]) ht.isList.typeIs slot_list_getitem.lookup ?_ (by with_unfolding_all rfl)
  have hlen := r.length
  refine wpAny_getItem_list_slice ht.isList (Heap.IsSliceOf.new ..) .none .none ps (by decide) ?_ (by rw [List.size_toArray] <;> omega)
  rw [slicePick_rev]
  have hf := I4.hok.fresh (Nat.le_refl _)
  refine ⟨.ref _,upd H3 _ (.lst xs.reverse),I4.laid (fun b ob q => Heap.get?_push_of_some _ q) (Nat.le_refl _) ?_,rfl,q _ _ (Same.new hf) upd_same hf⟩
  exact ⟨by rw [List.length_reverse]; exact hz,_,0,r.reverse,Heap.get?_push_size _ rfl⟩
end
end L2
namespace L2
open PySem PySem.Spec PyProof.Rows
section
variable {X : Cx}
end
end L2
namespace L2
open PySem PySem.Spec PyProof.Rows
section
variable {X : Cx}
theorem ps_try_asM {Cs : Addr → Prop} {n en : Str} {B : Addr} {np hpos pos : Pos} {body : List Stmt} {b₀ : Stmt} {suite : List Stmt} {tx : TX} {th : TS} {i : Nat} (stk : X.stack = X.env :: X.outer) (hfr : X.env.frame = some X.env.locals) (hb : PXs X body tx) (O : ExcC X.K X.mg n B) (hg : Gl X n)
    (hm : ∀ C,Cs C → PySem.W.exmOne X.K (.ref C) (.ref B) = some true) (hex : X.ex = []) (hN : X.N.Nodup) (hi : X.N[i]? = some en) (hk : X.env.kindOf en = some .local)
    (hh : ∀ e : Addr,PSs (X.inH e) (b₀ :: suite) th) (hdb : (n == ("__debug__" : Str)) = false := by decide) :
    PS X (.Try body [.ExceptHandler (some (.Name n np)) (some en) (b₀ :: suite) hpos] [] [] pos) (fun D σ H => tx (fun c σ' H' => ∃ C,c = .ref C ∧ Cs C ∧ ∀ e : Addr,H' e = none → th (D.drop i) (σ'.set i (some (.ref e))) (upd H' e (excO C e))) D σ H) := by
  intro pins s σ H D I h
  refine wpAny_Try_except (wpAny_mono (hb pins s σ H D _ I h) (fun f s1 q => ?_) fun ev s1 q => ?_)
  · cases f with
    | next => exact wpAny_execs_nil q
    | ret v => exact q
    | brk => exact q
    | cont => exact q
  · obtain ⟨s₁,σ₁,H₁,E1,I1,hx,hE⟩ := q
    obtain ⟨ea,t,cls,H',B',rfl,os,bare,un,hok,fl,big,q⟩ := hx
    obtain ⟨C,rfl,hC,rd⟩ := hE _ _ _ q
    exact caught_as (E1 := fun c o H'' => c = .ref C ∧ H'' = H') I1 stk hfr O hg (hm C hC) hex hN hi hk ⟨ea,t,_,H',B',rfl,os,bare,un,hok,fl,big,rfl,rfl⟩ (fun c o H'' z => by obtain ⟨rfl,rfl⟩ := z; exact ⟨rfl,rd⟩) hh hdb
inductive rIsEM (K : PySem.W.Frag) (Cs : Addr → Prop) (xs : List V) (H : Hp) (Q : VK) : Prop
  | mk : ∀ C,(Cs C) → (rIsE K C xs H Q) → rIsEM K Cs xs H Q
theorem call_isexcM {Cs : Addr → Prop} (h : ∀ C,Cs C → (∃ n,ExcC X.K X.mg n C) ∧ ExcF X.K C) : CallR X (.builtin "isinstance") (rIsEM X.K Cs) := by
  intro pins s σ H xs us Q I rs q
  obtain ⟨C,hC,q⟩ := q
  obtain ⟨⟨n,O⟩,f⟩ := h C hC
  exact call_isexc O f pins s σ H xs us Q I rs q
end
end L2
namespace L2
open PySem PySem.Spec PyProof.Rows
section
variable {X : Cx}
inductive rCatK (K : PySem.W.Frag) (x : V) (y : V) (H : Hp) (Q : VK) : Prop
  | mk : ∀ l b xs zs,(x = .ref l) → (y = .ref b) → (SqL K H l xs) → (SqL K H b zs) → (xs.length + zs.length ≤ sizeLine) → (∀ p H2,Same H H2 → H2 p = some (.lst (xs ++ zs)) → H p = none → Q (.ref p) H2) → rCatK K x y H Q
theorem op_catK : OpR X (binaryOp .Add) (rCatK X.K) := by
  intro pins s σ H x y v u Q I rx ry h
  obtain ⟨l,b,xs,zs,rfl,rfl,hH,hB,hz,q⟩ := h
  cases rx
  cases ry
  obtain ⟨its,r,pl,_⟩ := I.list hH
  obtain ⟨its2,r2,pl2,_⟩ := I.list hB
  have t1 := pl.isList.typeIs
  have t2 := pl2.isList.typeIs
  obtain ⟨⟨oc,od,odt,osl⟩,n,e,hc,hd,hs⟩ := pl
  obtain ⟨⟨oc2,od2,odt2,osl2⟩,n2,e2,hc2,hd2,hs2⟩ := pl2
  dsimp only at hc hd hs hc2 hd2 hs2
  subst hc hd hs hc2 hd2 hs2
  have hl := r.length
  have hl2 := r2.length
  refine concat_meets (T := "list") t1 t2 noFill_list_add seq_list_add F.slot_list_add F.entry_list_add (F.args_list_add_2 _ _) (list_addW l b its.toArray its2.toArray n n2 none none osl osl2 (by rw [List.size_toArray,List.size_toArray]; omega)) ⟨e,e2,?_⟩
  have ea : its.toArray ++ its2.toArray = (its ++ its2).toArray := by simp
  rw [ea]
  exact ⟨.ref _,_,I.lnew (t' := s.toks) (r.append r2) (by rw [List.length_append]; omega),rfl,q _ _ (Same.new I.fresh) upd_same I.fresh⟩
end
end L2
namespace L2
open PySem PySem.Spec PyProof.Rows PySem.NumText
section
variable {X : Cx} {pins : List (Addr × Obj)} {σ : St} {H : Hp} {s : Shared}
end
section
variable {prog : Program} {w : World} {A : Around} {E : Value → Shared → Prop} {s : Shared} {Q : Value → Shared → Prop} {x : PySem.Str} {t : Tok} {n : Int}
set_option maxHeartbeats 4000000 in
end
section
variable {X : Cx}
end
end L2
namespace L2
open PySem PySem.Spec PyProof.Rows PySem.NumText
section
variable {X : Cx}
theorem op_inS : OpR X (compareOp .In) (fun x y H Q => ∃ a b,x = .str a ∧ y = .str b ∧ Q (.bl (Txt.contains b a)) H) := by
  intro pins s σ H x y v u Q I rx ry h
  obtain ⟨a,b,rfl,rfl,q⟩ := h
  obtain ⟨t,rfl⟩ := rx
  obtain ⟨t',rfl⟩ := ry
  exact SB.contains ⟨.bl _,H,I,rfl,q⟩
end
def Its (x : Str) : It := ⟨fun i _ => i < x.cps.size,fun i H v H' => H' = H ∧ ∃ c,x.cps.toList[i]? = some c ∧ v = .str ⟨#[c]⟩,fun i _ => x.cps.size ≤ i⟩
theorem turn_str {P : Program} {w : World} {K : PySem.W.Frag} {tg : Expr} (x : Str) (t : Tok) (it : Addr) (ty : String) (hty : ty = "str_ascii_iterator" ∨ ty = "str_iterator") : Turn P w K tg (Its x) [it] it (fun i h => h.IsStrIter it ty x t i) where
  mem := by simp
  obj := fun i h st b hb => by
    have e : b = it := by simpa using hb
    subst e
    obtain ⟨o,e,c,d⟩ := st
    exact ⟨o,e,fun v z => by rw [d] at z; cases z⟩
  keep := fun i h h' st k => by
    obtain ⟨o,e,c,d⟩ := st
    exact ⟨o,k it (by simp) o e,c,d⟩
  item := by
    intro X hP hw hK hc i pins s σ H E I hf st hg
    subst hP hw hK
    obtain ⟨f0,f1,f2,f3,f4,f5⟩ := hf it (by simp)
    have hi : i < x.cps.size := hg
    have hx : x.cps[i]? = some x.cps[i] := by simp [hi]
    have hx2 : x.cps.toList[i]? = some x.cps[i] := by simp [hi]
    have go : ∀ h' tk,h'.IsStrIter it ty x t (i + 1) → Heap.SameBut it s.heap h' → ∃ u,some (Value.str ⟨#[x.cps[i]]⟩ s.toks) = some u ∧ wpAny (model X.prog X.w) X.A (letOwnedTupleGo tg (.ref it) u) (fun _ s2 => ∃ v H',Inv X pins σ H' s2 ∧ RelV v u ∧ (Its x).yld i H v H' ∧ s2.heap.IsStrIter it ty x t (i + 1) ∧ ∀ b ∈ [it],H' b = none) E { s with heap := h',toks := tk } := fun h' tk st' sb => by
      have I1 : Inv X pins σ H { s with heap := h',toks := tk } := I.turned (t' := tk) (fun b o hb e => (sb.2 b hb).trans e) f0 f1 f3 f4 f5
      obtain ⟨o,e,c,d⟩ := id st'
      exact ⟨_,rfl,go_of (s := { s with heap := h',toks := tk }) e c d (by rcases hty with rfl | rfl <;> decide) ⟨.str ⟨#[x.cps[i]]⟩,H,I1,⟨_,rfl⟩,⟨rfl,_,hx2,rfl⟩,st',fun b hb => (hf b hb).1⟩⟩
    rcases hty with rfl | rfl
    · exact wpAny_pyNext_ascii_item st hx fun h' st' sb => go h' _ st' sb
    · exact wpAny_pyNext_wide_item st hx fun h' st' sb => go h' _ st' sb
  done := by
    intro X hP hw hK hc i pins s σ H E I hf st hg
    subst hP hw hK
    obtain ⟨f0,f1,f2,f3,f4,f5⟩ := hf it (by simp)
    have hi : x.cps.size ≤ i := hg
    have hx : x.cps[i]? = none := by simp [hi]
    rcases hty with rfl | rfl
    · exact wpAny_pyNext_ascii_end (I.ok.hd hc) st hx fun h' eb => ⟨rfl,I.turned (t' := s.toks) (fun b o hb e => eb b o hb e) f0 f1 f3 f4 f5⟩
    · exact wpAny_pyNext_wide_end (I.ok.hd hc) st hx fun h' eb => ⟨rfl,I.turned (t' := s.toks) (fun b o hb e => eb b o hb e) f0 f1 f3 f4 f5⟩
  self := fun _ _ _ _ _ st h => by
    rcases hty with rfl | rfl
    · exact wpAny_pyIter_striter_ascii st h
    · exact wpAny_pyIter_striter_wide st h
section
variable {X : Cx} {tg : Expr}
def iStr (tl : TE) : TI := fun σ H R => tl σ H fun v H1 => ∃ x,v = .str x ∧ R (Its x) H1
theorem pi_str {l : Expr} {tl : TE} (hl : PE X l tl) : PI X tg l (iStr tl) := by
  intro pins s σ H R I h
  refine thn (hl pins s σ H _ I h) fun v s1 ⟨y,H1,I1,r1,q1⟩ => ?_
  obtain ⟨x,e,q⟩ := q1
  subst e
  obtain ⟨t,rfl⟩ := r1
  refine wpAny_pyIter_strU ?_
  refine ⟨s1.heap.objs.size,[s1.heap.objs.size],_,_,H1,rfl,I1.kept (t' := s1.toks) fun b o e => Heap.get?_push_of_some _ e,turn_str x t _ (strIterType x) (by unfold strIterType; split <;> simp),⟨_,Heap.get?_push_size _ rfl,rfl,rfl⟩,fun b hb => ?_,q⟩
  have e : b = s1.heap.objs.size := by simpa using hb
  subst e
  exact I1.fpOk (Nat.le_refl _) (I1.hok.fresh (Nat.le_refl _))
end
theorem comp_sR {x : Str} {fv : List (Str × Nat)} {te : TE} {σ : St} {H1 : Hp} {Q : VK} (hlen : x.cps.size < 1000000) (R : Nat → V → Hp → Prop) (hR : ∀ i v H H',SameT H H' → R i v H → R i v H')
    (hs : ∀ i c H2 (Kc : VK),x.cps.toList[i]? = some c → Same H1 H2 → (∀ y H4,Same H2 H4 → R i y H4 → Kc y H4) → te (some (.str ⟨#[c]⟩) :: fvs fv σ) H2 Kc)
    (hd : ∀ l ys H',H1 l = none → Same H1 H' → H' l = some (.lst ys) → ys.length = x.cps.size → (∀ i y,ys[i]? = some y → R i y H') → Q (.ref l) H') :
    CompAt (Its x) fv te σ H1 Q := by
  intro l hl
  have hz : sizeLine = 16777216 := sizeLine_eq
  refine ⟨fun i m acc H2 => m = x.cps.size - i ∧ i ≤ x.cps.size ∧ acc.length = i ∧ Same H1 H2 ∧ H2 l = some (.lst acc) ∧ ∀ j y,acc[j]? = some y → R j y H2,⟨x.cps.size,by simp,Nat.zero_le _,rfl,Same.new hl,upd_same,fun j y h => by simp at h⟩,?_⟩
  rintro i m acc H2 ⟨rfl,hi,e1,sm,e3,hr⟩
  refine ⟨e3,by omega,?_⟩
  by_cases hlt : i < x.cps.size
  · refine .inr ⟨hlt,fun v H3 y => ?_⟩
    obtain ⟨rfl,c,hc,rfl⟩ := y
    refine hs i c _ _ hc sm fun y H4 s4 ry => ⟨s4 _ _ e3,x.cps.size - (i + 1),by omega,rfl,hlt,by simp [e1],(sm.trans s4).upd hl,upd_same,fun j z hz => ?_⟩
    have t4 := SameT.upd (ys := acc ++ [y]) (s4 _ _ e3)
    rcases Nat.lt_trichotomy j acc.length with h | h | h
    · rw [List.getElem?_append_left h] at hz
      exact hR _ _ _ _ (s4.t.trans t4) (hr j z hz)
    · subst h
      rw [List.getElem?_append_right (Nat.le_refl _),Nat.sub_self] at hz
      cases hz
      rw [e1]
      exact hR _ _ _ _ t4 ry
    · rw [List.getElem?_eq_none (by simp; omega)] at hz
      cases hz
  · have e : i = x.cps.size := by omega
    subst e
    exact .inl ⟨Nat.le_refl _,hd l acc H2 hl sm e3 e1 hr⟩
end L2
namespace Hd
open PySem PySem.W PySem.Spec L2
def live (o : Obj) : Bool := match o.data with
  | .freed => false
  | _ => true
def nums : Nat → List Obj → Frag
  | _,[] => []
  | n,a :: r => bif live a then (n,a) :: nums (n + 1) r else nums (n + 1) r
theorem nums_at : ∀ (l : List Obj) (n a : Nat) (o : Obj),(nums n l).lookup a = some o → n ≤ a ∧ l[a - n]? = some o ∧ live o = true
  | [],_,_,_,e => by cases e
  | x :: r,n,a,o,e => by
    have up : (nums (n + 1) r).lookup a = some o → n ≤ a ∧ (x :: r)[a - n]? = some o ∧ live o = true := fun e => by
      obtain ⟨h1,h2,h3⟩ := nums_at r (n + 1) a o e
      refine ⟨by omega,?_,h3⟩
      have : a - n = (a - (n + 1)) + 1 := by omega
      rw [this]
      exact h2
    unfold nums at e
    cases hl : live x with
    | false =>
      rw [hl] at e
      exact up e
    | true =>
      rw [hl,cond_true,List.lookup_cons] at e
      cases hb : a == n with
      | true =>
        rw [hb] at e
        have hb := beq_iff_eq.mp hb
        subst hb
        cases e
        exact ⟨Nat.le_refl _,by simp,hl⟩
      | false =>
        rw [hb] at e
        exact up e
def frag (h : Heap) : Frag := nums 0 h.objs.toList
theorem frag_in (h : Heap) : (frag h).In h := by
  intro a o e
  obtain ⟨_,q,hl⟩ := nums_at _ _ _ _ e
  have q : h.objs[a]? = some o := by simpa using q
  unfold Heap.get?
  rw [q]
  obtain ⟨c,d,dt,sl⟩ := o
  cases dt <;> first | rfl | cases hl
def fnFact (K : Frag) (x : Str) : Option (Arguments × List Stmt × Scope × Value) := match nsIn K mainGlobals x with
  | some (some (.ref f)) => (match K.lookup f with
    | some ⟨_,_,.func fd,_⟩ => (match fd.body,fd.closure with
      | .stmts b,[] => bif (fd.name == x && (fd.qualname == x && (Nat.beq fd.globals mainGlobals && (Nat.beq fd.builtins builtinsNs && codeIn K fd.code x)))) then some (fd.params,b,fd.scope,fd.defaults) else none
      | _,_ => none)
    | _ => none)
  | _ => none
theorem fnFact_spec {K : Frag} {x : Str} {a : Arguments} {b : List Stmt} {sc : Scope} {dv : Value} (e : fnFact K x = some (a,b,sc,dv)) :
    ∃ (f : Addr) (oc : Value) (od : Option Addr) (kV doc pm : Value) (an : Option Addr) (cdv ct : Value) (osl : Array (Option Value)),
      nsIn K mainGlobals x = some (some (.ref f)) ∧ K.lookup f = some ⟨oc,od,.func (fnOf x x a b sc dv kV doc pm an cdv ct),osl⟩ ∧ codeIn K cdv x = true ∧ keepIn K (.ref f) = true := by
  unfold fnFact at e
  split at e
  · rename_i f hf
    split at e
    · rename_i oc od fd osl hl
      split at e
      · rename_i b' hb hc
        cases hq : (fd.name == x && (fd.qualname == x && (Nat.beq fd.globals mainGlobals && (Nat.beq fd.builtins builtinsNs && codeIn K fd.code x)))) with
        | false => rw [hq] at e; cases e
        | true =>
          rw [hq] at e
          simp only [Bool.and_eq_true] at hq
          obtain ⟨h1,h2,h3,h4,h5⟩ := hq
          replace h1 := eq_of_beq h1
          replace h2 := eq_of_beq h2
          replace h3 := Nat.eq_of_beq_eq_true h3
          replace h4 := Nat.eq_of_beq_eq_true h4
          simp only [cond_true,Option.some.injEq,Prod.mk.injEq] at e
          obtain ⟨e1,e2,e3,e4⟩ := e
          obtain ⟨n,qn,ps,bd,s,gl,cl,df,kw,dc,pm,an,cd,ct,bl⟩ := fd
          simp only at h1 h2 h3 h4 h5 e1 e2 e3 e4 hb hc
          subst h1 h2 h3 h4 e1 e2 e3 e4 hb hc
          refine ⟨f,oc,od,kw,dc,pm,an,cd,ct,osl,hf,hl,h5,?_⟩
          unfold keepIn
          dsimp only
          rw [hl]
      · cases e
    · cases e
  · cases e
theorem df_of {K : Frag} {mg : Str → Option Value} {h : Heap} {x : Str} {st : Stmt} (X : K.In h) (G : h.Ns mainGlobals mg) (e : fnFact K x = some (defArgs st,defBody st,defScope st,.none)) : Df K mg x st := by
  obtain ⟨f,oc,od,kV,doc,pm,an,cdv,ct,osl,h1,h2,h3,h4⟩ := fnFact_spec e
  exact df_mk X G h1 h2 h3 h4
def bareV : Value → V
  | .none => .non
  | .bool b => .bl b
  | .int i _ => .int i
  | .str x _ => .str x
  | .bytes b _ => .byt b
  | .float b _ => .flt b
  | .ref a => .ref a
  | .type n => .ty n
  | _ => .ty "no plain value"
def plainV : Value → Bool
  | .ellipsis | .notImplemented | .builtin _ => false
  | _ => true
def seqAt (K : Frag) (v : Value) : Option (List V) := match v with
  | .ref a => (match K.lookup a with
    | some ⟨_,_,.seq its _,_⟩ => bif its.toList.all plainV then some (its.toList.map bareV) else none
    | _ => none)
  | _ => none
def fnFactD (K : Frag) (x : Str) : Option (Arguments × List Stmt × Scope × List V) := match fnFact K x with
  | some (a,b,s,dv) => (match seqAt K dv with
    | some ds => some (a,b,s,ds)
    | none => none)
  | none => none
def cls (K : Frag) (x : Str) : Addr := match nsIn K mainGlobals x with
  | some (some (.ref C)) => C
  | _ => 0
def excFact (K : Frag) (x : Str) : Bool := match nsIn K mainGlobals x with
  | some (some (.ref C)) => excIn K C [.type "ValueError",.type "Exception",.type "BaseException",.type "object"] "ValueError.__new__"
  | _ => false
theorem exc_of {K : Frag} {mg : Str → Option Value} {h : Heap} {x : Str} (X : K.In h) (G : h.Ns mainGlobals mg) (e : excFact K x = true) : ExcC K mg x (cls K x) := by
  unfold excFact at e
  split at e
  · rename_i C hC
    have : cls K x = C := by unfold cls; rw [hC]
    rw [this]
    exact exc_mk X G hC e
  · cases e
def tupFact (K : Frag) (x : Str) : Option (List V) := match nsIn K mainGlobals x with
  | some (some (.ref a)) => (match K.lookup a with
    | some ⟨.type "tuple",_,.seq its _,_⟩ => bif its.toList.all plainV then some (its.toList.map bareV) else none
    | _ => none)
  | _ => none
def noFact (K : Frag) (x : Str) : Bool := match nsIn K mainGlobals x with
  | some none => true
  | _ => false
theorem no_of {K : Frag} {x : Str} (e : noFact K x = true) : nsIn K mainGlobals x = some none := by
  unfold noFact at e
  split at e
  · rename_i h
    exact h
  · cases e
theorem at_map {α β : Type} {f g : α → β} {l : List α} (e : l.map f = l.map g) (i : Nat) {a : α} (h : l[i]? = some a) : f a = g a := by
  have q := congrArg (fun l : List β => l[i]?) e
  simp only [List.getElem?_map,h,Option.map_some,Option.some.injEq] at q
  exact q
theorem at_all {α : Type} {f : α → Bool} {l : List α} (e : l.all f = true) (i : Nat) {a : α} (h : l[i]? = some a) : f a = true :=
  List.all_eq_true.mp e a (List.mem_of_getElem? h)
theorem at_two {α : Type} {l m : List α} (e : l = m) (i : Nat) {a b : α} (h : l[i]? = some a) (h' : m[i]? = some b) : a = b := by
  subst e
  rw [h] at h'
  exact Option.some.inj h'
def hook {α : Type} (facts : Frag → α) (val : α) : Hook :=
  ⟨α,fun s => facts (frag s.heap),fun _ => val,fun _ h => ∃ K : Frag,K.In h ∧ facts K = val,fun _ s e => ⟨_,frag_in s.heap,e⟩,fun _ _ _ ⟨K,hi,e⟩ k => ⟨K,Frag.In.keeps hi k,e⟩⟩
theorem law_walk {l : OpenLaw} {k : Nat} {q : Program} {loose : List Str} {XP : (Str → Option Value) → Heap → Prop} {d : DefRec} {α : Type} {facts : Frag → α} {val : α} (hk : Room k callerA) (hn : l.most = some 63) (hdf : d.params.defaults = [])
    (F : ∀ (K : Frag),facts K = val → ∀ (w : World) (mg : Str → Option Value) (fa : Addr) (h : Heap),K.In h → h.Ns mainGlobals mg → mg d.name = some (.ref fa) →
      ∃ fd : FuncData,(∀ (s : Shared) (u : Value),BindsTo s fd ⟨[u],[]⟩ [("script",u)]) ∧ ∀ base : Heap,K.In base → base.Ns mainGlobals mg → FnOk l.prog w K mg base CX0 k fa fd ["script"] (spLaw K)) :
    WalkO q loose XP (Hook.says (hook facts val)) l.row.toRowW d [] (fun f vs => PySem.call f vs) := by
  intro w s₀ s₁ mg mb G Y
  obtain ⟨K,hin,hf⟩ := Y
  exact L2.law_walk (l := l) (k := k) (q := q) (loose := loose) (XP := XP) (YP := fun _ h => K.In h) (d := d) (K := fun _ => K) hk hn hdf (fun _ _ y => y) (fun w mg fa h => F K hf w mg fa h) w s₀ s₁ mg mb G hin
end Hd
namespace Hd
open PySem PySem.W PySem.Spec L2
end Hd
namespace L2
open PySem PySem.Spec PyProof.Rows
end L2
namespace Hd
open PySem PySem.W PySem.Spec L2
theorem pair2 {α β : Type _} {a a' : α} {b b' : β} (h : a = a') (g : b = b') : (a,b) = (a',b') := by rw [h,g]
end Hd
namespace Hd
open PySem PySem.W PySem.Spec L2
theorem const_of {K : Frag} {mg : Str → Option Value} {h : Heap} {x : Str} {v : V} (X : K.In h) (G : h.Ns mainGlobals mg) (e : (nsIn K mainGlobals x).map (fun o => o.map bareV) = some (some v)) : ∃ u,mg x = some u ∧ bareV u = v := by
  cases hn : nsIn K mainGlobals x with
  | none =>
    rw [hn] at e
    cases e
  | some o =>
    cases o with
    | none =>
      rw [hn] at e
      cases e
    | some u =>
      rw [hn] at e
      exact ⟨u,mg_of X G hn,Option.some.inj (Option.some.inj e)⟩
theorem int_of {K : Frag} {mg : Str → Option Value} {h : Heap} {x : Str} {i : Int} (X : K.In h) (G : h.Ns mainGlobals mg) (e : (nsIn K mainGlobals x).map (fun o => o.map bareV) = some (some (.int i))) : ∃ tk,mg x = some (.int i tk) := by
  obtain ⟨u,h1,h2⟩ := const_of X G e
  cases u <;> first | (cases h2; exact ⟨_,h1⟩) | cases h2
theorem str_of {K : Frag} {mg : Str → Option Value} {h : Heap} {x z : Str} (X : K.In h) (G : h.Ns mainGlobals mg) (e : (nsIn K mainGlobals x).map (fun o => o.map bareV) = some (some (.str z))) : ∃ tk,mg x = some (.str z tk) := by
  obtain ⟨u,h1,h2⟩ := const_of X G e
  cases u <;> first | (cases h2; exact ⟨_,h1⟩) | cases h2
end Hd
namespace Hd
open PySem PySem.W PySem.Spec L2
def refIs (C : Addr) : Value → Bool
  | .ref a => Nat.beq a C
  | _ => false
def tyIs (n : String) : Value → Bool
  | .type a => a == n
  | _ => false
theorem refIs_eq (C : Addr) (v : Value) : (Value.ref C == v) = refIs C v := by
  rw [Bool.eq_iff_iff,beq_iff_eq]
  cases v with
  | ref a => exact ⟨fun e => by cases e; exact Nat.beq_refl _,fun e => by rw [Nat.eq_of_beq_eq_true e]⟩
  | _ => exact ⟨fun e => (nomatch e),fun e => (nomatch e)⟩
theorem tyIs_eq (n : String) (v : Value) : (Value.type n == v) = tyIs n v := by
  rw [Bool.eq_iff_iff,beq_iff_eq]
  cases v with
  | type a => exact ⟨fun e => by cases e; exact beq_self_eq_true n,fun e => by rw [beq_iff_eq.mp e]⟩
  | _ => exact ⟨fun e => (nomatch e),fun e => (nomatch e)⟩
theorem has_ref (l : List Value) (C : Addr) : l.contains (.ref C) = l.any (refIs C) := by
  rw [List.contains_eq_any_beq]
  exact congrArg l.any (funext fun v => refIs_eq C v)
theorem has_ty (l : List Value) (n : String) : l.contains (.type n) = l.any (tyIs n) := by
  rw [List.contains_eq_any_beq]
  exact congrArg l.any (funext fun v => tyIs_eq n v)
def mroR (K : Frag) (C : Addr) : Option (List Value) := match K.lookup C with
  | some ⟨_,_,.cls cd,_⟩ => (match cd.mro with
    | [] => none
    | v :: r => some (v :: r))
  | _ => none
theorem mroR_in {K : Frag} {C : Addr} {l : List Value} (e : mroR K C = some l) (b : Value) : mroIn K C b = some (l.contains b) := by
  unfold mroR at e
  split at e
  · rename_i a d cd sl h
    split at e
    · cases e
    · rename_i v r hm
      cases e
      unfold mroIn clsIn
      rw [h]
      show (if cd.mro.isEmpty then none else some (cd.mro.contains b)) = _
      rw [hm]
      rfl
  · cases e
def clsR (K : Frag) (C : Addr) : Bool := match K.lookup C with
  | some ⟨.type n,_,.cls _,_⟩ => n == "type"
  | _ => false
theorem clsR_in {K : Frag} {C : Addr} (e : clsR K C = true) : ((clsIn K C).isSome && typeIn K (.ref C) == some (.type "type")) = true := by
  unfold clsR at e
  split at e
  · rename_i n d cd sl h
    have e := beq_iff_eq.mp e
    subst e
    unfold clsIn typeIn
    rw [h,Bool.and_eq_true]
    exact ⟨rfl,by rw [beq_iff_eq]; dsimp only; rw [h]; rfl⟩
  · cases e
def subR (K : Frag) (C D : Addr) : Option Bool := bif clsR K D then (match mroR K C with
    | some l => some (l.any (refIs D))
    | none => none) else none
theorem subR_cls {K : Frag} {C D : Addr} {b : Bool} (e : subR K C D = some b) : kitCls K (.ref C) (.ref D) = some b := by
  unfold subR at e
  cases hc : clsR K D with
  | false => rw [hc] at e; cases e
  | true =>
    rw [hc,cond_true] at e
    split at e
    · rename_i l hl
      cases e
      unfold kitCls
      dsimp only
      rw [if_pos (clsR_in hc),← has_ref]
      exact mroR_in hl _
    · cases e
def kitR (K : Frag) (C D : Addr) : Option Bool := bif Nat.beq C D then some true else subR K C D
theorem kitR_one {K : Frag} {C D : Addr} {b : Bool} (e : kitR K C D = some b) : kitOne K (.ref C) (.ref D) = some b := by
  unfold kitR at e
  unfold kitOne
  cases h : Nat.beq C D with
  | true =>
    rw [h,cond_true] at e
    have h := Nat.eq_of_beq_eq_true h
    subst h
    rw [if_pos (beq_self_eq_true _)]
    exact e
  | false =>
    rw [h,cond_false] at e
    have h := Nat.ne_of_beq_eq_false h
    rw [if_neg (by rw [beq_iff_eq]; exact fun x => h (by cases x; rfl))]
    exact subR_cls e
theorem meta_VE : kitMeta "ValueError" = true := by decide +kernel
def kitT (K : Frag) (C : Addr) : Option Bool := match mroR K C with
  | some l => some (l.any (tyIs "ValueError"))
  | none => none
theorem kitT_one {K : Frag} {C : Addr} {b : Bool} (e : kitT K C = some b) : kitOne K (.ref C) (.type "ValueError") = some b := by
  unfold kitT at e
  unfold kitOne
  rw [if_neg (by rw [beq_iff_eq]; exact fun x => by cases x)]
  split at e
  · rename_i l hl
    cases e
    unfold kitCls
    dsimp only
    rw [if_pos meta_VE,← has_ty]
    exact mroR_in hl _
  · cases e
def exmR (K : Frag) (C D : Addr) : Option Bool := match mroR K D with
  | some l => bif l.any (tyIs "BaseException") then subR K C D else none
  | none => none
theorem exmR_one {K : Frag} {C D : Addr} {b : Bool} (e : exmR K C D = some b) : exmOne K (.ref C) (.ref D) = some b := by
  unfold exmR at e
  split at e
  · rename_i l hl
    cases h : l.any (tyIs "BaseException") with
    | false => rw [h] at e; cases e
    | true =>
      rw [h,cond_true] at e
      unfold exmOne
      have : subIn K (.ref D) (.type "BaseException") = some true := by
        rw [← h,← has_ty]
        exact mroR_in hl _
      rw [this,if_pos (by decide)]
      exact subR_cls e
  · cases e
def veTail : List Value → Bool
  | [.type a,.type b,.type c,.type d] => a == "ValueError" && (b == "Exception" && (c == "BaseException" && d == "object"))
  | _ => false
theorem veTail_eq : ∀ {l : List Value},veTail l = true → l = [.type "ValueError",.type "Exception",.type "BaseException",.type "object"] := fun {l} e => by
  unfold veTail at e
  split at e
  · simp only [Bool.and_eq_true,beq_iff_eq] at e
    obtain ⟨rfl,rfl,rfl,rfl⟩ := e
    rfl
  · cases e
def alongR (K : Frag) (x : Str) : List Value → Bool
  | [] => false
  | v :: r => match v with
    | .ref a => (match K.lookup a with
      | some ⟨_,_,.cls cd,_⟩ => (match nsIn K cd.ns x with
        | some none => alongR K x r
        | _ => false)
      | _ => false)
    | _ => veTail (v :: r)
theorem alongR_in {K : Frag} {x : Str} {z : Option Value} (hz : alongIn K x [.type "ValueError",.type "Exception",.type "BaseException",.type "object"] = some z) : ∀ {l : List Value},alongR K x l = true → alongIn K x l = some z
  | [],e => by cases e
  | v :: r,e => by
    unfold alongR at e
    split at e
    · rename_i a
      split at e
      · rename_i a' d cd sl h
        split at e
        · rename_i hn
          unfold alongIn ownIn
          dsimp only
          rw [h]
          dsimp only
          rw [hn]
          exact alongR_in hz e
        · cases e
      · cases e
    · rw [veTail_eq e]
      exact hz
def findR (K : Frag) (C : Addr) (x : Str) : Bool := match K.lookup C with
  | some ⟨_,_,.cls cd,_⟩ => alongR K x cd.mro
  | _ => false
theorem findR_eq {K : Frag} {C : Addr} {x : Str} {z : Option Value} (hz : alongIn K x [.type "ValueError",.type "Exception",.type "BaseException",.type "object"] = some z) (e : findR K C x = true) : findIn K (.ref C) x = some z := by
  unfold findR at e
  split at e
  · rename_i a d cd sl h
    unfold findIn
    dsimp only
    rw [h]
    exact alongR_in hz e
  · cases e
theorem fE_ga (K : Frag) : alongIn K "__getattribute__" [.type "ValueError",.type "Exception",.type "BaseException",.type "object"] = some (some (.builtin "BaseException.__getattribute__")) := by kernel_rfl
theorem fE_gn (K : Frag) : alongIn K "__getattr__" [.type "ValueError",.type "Exception",.type "BaseException",.type "object"] = some none := by kernel_rfl
theorem fE_cl (K : Frag) : alongIn K "__class__" [.type "ValueError",.type "Exception",.type "BaseException",.type "object"] = some (some (.builtin "object.__class__")) := by kernel_rfl
end Hd
namespace L2
open PySem PySem.Spec PyProof.Rows
structure OwnC (K : PySem.W.Frag) (mg : Str → Option Value) (x : Str) (C : Addr) : Prop where
  bound : mg x = some (.ref C)
  cls : Cls K C
  makes : PySem.W.makesIn K C = true
  kp : PySem.W.keepIn K (.ref C) = true
structure DfM (K : PySem.W.Frag) (C : Addr) (m q : Str) (st : Stmt) : Prop where
  ex : ∃ (f : Addr) (oc : Value) (od : Option Addr) (kV doc pm : Value) (an : Option Addr) (cdv ct : Value) (osl : Array (Option Value)),
    Meth K C m f ∧ K.lookup f = some ⟨oc,od,.func (PySem.W.fnOf m q (defArgs st) (defBody st) (defScope st) .none kV doc pm an cdv ct),osl⟩ ∧ PySem.W.codeIn K cdv q = true
structure Mt (P : Program) (w : World) (K : PySem.W.Frag) (mg : Str → Option Value) (base : Heap) (C : Addr) (m : Str) (ps : List Str) (k : Nat) (sp : Sp) : Prop where
  ex : ∃ (f : Addr) (fd : FuncData),Meth K C m f ∧ Binds K fd ps [] ∧ FnOk P w K mg base (CXE P w) k f fd ps sp
theorem DfM.mt {P : Program} {w : World} {K : PySem.W.Frag} {mg : Str → Option Value} {base : Heap} {C : Addr} {m q : Str} {st : Stmt} {N ps : List Str} {k : Nat} {sp : Sp} (D : DfM K C m q st) (S : FnScope N ps (defScope st))
    (hbind : ∀ (kV doc pm : Value) (an : Option Addr) (cdv ct : Value) (us : List Value),us.length = ps.length → bindArgs (PySem.W.fnOf m q (defArgs st) (defBody st) (defScope st) .none kV doc pm an cdv ct) ⟨us,[]⟩ = pure (ps.zip us))
    (len : ∀ vs H Q E,sp vs H Q E → vs.length = ps.length)
    (hbody : ∀ (f : Addr) (cdv : Value) (A : Around) (outer : List Env) (s : Shared) (H : Hp) (vs : List V) (Q : VK) (E : XK),Room k (A.deeper (envOfC q (defScope st) s.heap.objs.size f cdv)) → sp vs H Q E →
      ∃ t,PSs (cxOf (CXE P w) P w K mg base N q (defScope st) f cdv A outer s H E) (defBody st) t ∧ t { nx := fun _ H' => Q .non H',rt := Q } (start N vs) H) : Mt P w K mg base C m ps (k + 1) sp := by
  obtain ⟨f,oc,od,kV,doc,pm,an,cdv,ct,osl,hm,lk,hcd⟩ := D.ex
  exact ⟨⟨f,_,hm,.all (hbind kV doc pm an cdv ct),fn_of lk hcd S len fun A outer s H vs Q E hr hsp => hbody f cdv A outer s H vs Q E hr hsp⟩⟩
section
variable {X : Cx} {C : Addr} {m : Str} {ps : List Str} {k : Nat} {sp : Sp} {o e : Expr} {es : List Expr} {ta : TE} {t : TA} {apos pos : Pos}
theorem pe_mt0 {pl : Sem Bool} {n : Str} (O : OwnC X.K X.mg n C) (F : Mt X.prog X.w X.K X.mg X.base C m ps k sp) (hr : Room k X.A) (ho : PE X o ta) (ha : PA X (e :: es) t)
    (hst : starEach (e :: es) X.env = (false,eval e X.env) :: starEach es X.env := by rfl) (hpl : (backTo pos (starEach es X.env)).any (·.1) = false := by rfl)
    (ht : eval (.Call (.Attribute o m apos) (e :: es) [] pos) X.env = (do
      let ov ← eval o X.env
      standAt apos.atName
      let (f,first) ← holding [ov] (getMethod ov m pl)
      callWith pos f first (backTo pos (starEach (e :: es) X.env)) (backToKw pos (keywordEach [] X.env))) := by rfl) :
    PE X (.Call (.Attribute o m apos) (e :: es) [] pos) (tMeth C m sp [] E0 ta t) := by
  obtain ⟨f,fd,hm,hb,G⟩ := F.ex
  exact pe_meth (pl := pl) ho O.cls hm G hr hb .nil pass_none ha hst hpl ht
theorem pe_mt00 {pl : Sem Bool} {n : Str} (O : OwnC X.K X.mg n C) (F : Mt X.prog X.w X.K X.mg X.base C m ps k sp) (hr : Room k X.A) (ho : PE X o ta)
    (ht : eval (.Call (.Attribute o m apos) [] [] pos) X.env = (do
      let ov ← eval o X.env
      standAt apos.atName
      let (f,first) ← holding [ov] (getMethod ov m pl)
      callWith pos f first (backTo pos (starEach [] X.env)) (backToKw pos (keywordEach [] X.env))) := by rfl) :
    PE X (.Call (.Attribute o m apos) [] [] pos) (tMeth C m sp [] E0 ta tNil) := by
  obtain ⟨f,fd,hm,hb,G⟩ := F.ex
  exact pe_meth0 (pl := pl) ho O.cls hm G hr hb .nil pass_none ht
theorem pe_mk0 {x : Str} {p : Pos} (O : OwnC X.K X.mg x C) (F : Mt X.prog X.w X.K X.mg X.base C "__init__" ps k sp) (hr : Room (k + 1) X.A) (hg : Gl X x) (hdb : (x == ("__debug__" : Str)) = false := by decide) :
    PE X (.Call (.Name x p) [] [] pos) (tMake C sp [] E0 tNil) := by
  obtain ⟨f,fd,hm,hb,G⟩ := F.ex
  exact pe_make0 ⟨O.makes,hm.at_,hm.fn,O.kp⟩ G hr hg O.bound hb .nil pass_none hdb
theorem ps_nox {st : Stmt} {t : TS} (h : PS X.nox st t) : PS X st t := fun pins s σ H D I hw =>
  wpAny_mono (h pins s σ H D (I.wish _) hw) (fun _ _ q => q.unwish) fun _ _ z => False.elim z
end
section
variable {P : Program} {w : World} {K : PySem.W.Frag} {mg : Str → Option Value} {base : Heap} {N : List Str} {qual : Str} {scope : Scope} {f : Addr} {cdv : Value} {A : Around} {outer : List Env} {s₀ : Shared} {H₀ : Hp} {E : XK}
  {C : Addr} {m : Str} {ps : List Str} {k : Nat} {sp : Sp} {o e : Expr} {es : List Expr} {ta : TE} {t : TA} {apos pos : Pos}
theorem pe_mtX {pl : Sem Bool} {n : Str} (O : OwnC K mg n C) (F : Mt P w K mg base C m ps k sp) (hr : Room k (cxOf (CXE P w) P w K mg base N qual scope f cdv A outer s₀ H₀ E).A) (ho : PE (cxOf (CXE P w) P w K mg base N qual scope f cdv A outer s₀ H₀ E) o ta)
    (ha : PA (cxOf (CXE P w) P w K mg base N qual scope f cdv A outer s₀ H₀ E) (e :: es) t)
    (hst : starEach (e :: es) (cxOf (CXE P w) P w K mg base N qual scope f cdv A outer s₀ H₀ E).env = (false,eval e (cxOf (CXE P w) P w K mg base N qual scope f cdv A outer s₀ H₀ E).env) :: starEach es (cxOf (CXE P w) P w K mg base N qual scope f cdv A outer s₀ H₀ E).env := by rfl) (hpl : (backTo pos (starEach es (cxOf (CXE P w) P w K mg base N qual scope f cdv A outer s₀ H₀ E).env)).any (·.1) = false := by rfl)
    (ht : eval (.Call (.Attribute o m apos) (e :: es) [] pos) (cxOf (CXE P w) P w K mg base N qual scope f cdv A outer s₀ H₀ E).env = (do
      let ov ← eval o (cxOf (CXE P w) P w K mg base N qual scope f cdv A outer s₀ H₀ E).env
      standAt apos.atName
      let (fv,first) ← holding [ov] (getMethod ov m pl)
      callWith pos fv first (backTo pos (starEach (e :: es) (cxOf (CXE P w) P w K mg base N qual scope f cdv A outer s₀ H₀ E).env)) (backToKw pos (keywordEach [] (cxOf (CXE P w) P w K mg base N qual scope f cdv A outer s₀ H₀ E).env))) := by rfl) :
    PE (cxOf (CXE P w) P w K mg base N qual scope f cdv A outer s₀ H₀ E) (.Call (.Attribute o m apos) (e :: es) [] pos) (tMeth C m sp [] E ta t) := by
  obtain ⟨g,fd,hm,hb,G⟩ := F.ex
  exact pe_meth (pl := pl) ho O.cls hm G hr hb .nil (pass_on fun _ _ _ z => z) ha hst hpl ht
theorem pe_mtX0 {pl : Sem Bool} {n : Str} (O : OwnC K mg n C) (F : Mt P w K mg base C m ps k sp) (hr : Room k (cxOf (CXE P w) P w K mg base N qual scope f cdv A outer s₀ H₀ E).A) (ho : PE (cxOf (CXE P w) P w K mg base N qual scope f cdv A outer s₀ H₀ E) o ta)
    (ht : eval (.Call (.Attribute o m apos) [] [] pos) (cxOf (CXE P w) P w K mg base N qual scope f cdv A outer s₀ H₀ E).env = (do
      let ov ← eval o (cxOf (CXE P w) P w K mg base N qual scope f cdv A outer s₀ H₀ E).env
      standAt apos.atName
      let (fv,first) ← holding [ov] (getMethod ov m pl)
      callWith pos fv first (backTo pos (starEach [] (cxOf (CXE P w) P w K mg base N qual scope f cdv A outer s₀ H₀ E).env)) (backToKw pos (keywordEach [] (cxOf (CXE P w) P w K mg base N qual scope f cdv A outer s₀ H₀ E).env))) := by rfl) :
    PE (cxOf (CXE P w) P w K mg base N qual scope f cdv A outer s₀ H₀ E) (.Call (.Attribute o m apos) [] [] pos) (tMeth C m sp [] E ta tNil) := by
  obtain ⟨g,fd,hm,hb,G⟩ := F.ex
  exact pe_meth0 (pl := pl) ho O.cls hm G hr hb .nil (pass_on fun _ _ _ z => z) ht
end
section
variable {X : Cx} {x : Str} {i : Nat} {C : Addr} {m : Str} {ps : List Str} {k : Nat} {sp : Sp} {o e : Expr} {es : List Expr} {ta : TE} {t : TA} {px apos cpos pos : Pos}
def tMethX (C : Addr) (m : Str) (sp : Sp) (ta : TE) (t : TA) (i : Nat) : TX := fun R D σ H => ta σ H fun x H1 => ∃ a dx fs,x = .ref a ∧ H1 a = some (.ins C dx fs) ∧ fs.lookup m = none ∧
  t σ H1 fun vs H2 => sp (x :: vs) H2 (fun v H3 => D.nx (σ.set i (some v)) H3) fun c _ H3 => R c σ H3
theorem run_mt {pins : List (Addr × Obj)} {s1 : Shared} {σ : St} {H1 : Hp} {Q : VK} {R : Value → St → Hp → Prop} {f : Addr} {fd : FuncData} {us : List Value} {vs : List V} (hb : Binds X.K fd ps []) (G : FnOk X.prog X.w X.K X.mg X.base (CXE X.prog X.w) k f fd ps sp) (hr : Room k X.A)
    (I1 : Inv X pins σ H1 s1) (r : Vals vs us) (q1 : sp vs H1 Q fun c _ H2 => R c σ H2) : wpAny (model X.prog X.w) X.A (call (.ref f) us) (EP X pins σ Q) (XP X pins R) s1 := by
  have hl : (us ++ []).length = ps.length := by rw [List.append_nil,← r.length]; exact G.len _ _ _ _ q1
  have hbb := hb s1 us I1.kIn hl
  rw [List.append_nil] at hbb
  refine wpAny_call (codeAny_mono (G.run X.A X.stack s1 H1 ⟨us,[]⟩ us vs Q _ hr I1.env0 hbb r q1) fun rr s' hq => ?_)
  cases rr with
  | error ev => exact ⟨s1,σ,H1,(fun c _ H2 => R c σ H2),I1,hq,fun c o H' z => z⟩
  | ok flw =>
    cases flw with
    | ret u => exact I1.after hq
    | next => exact False.elim hq
    | brk => exact False.elim hq
    | cont => exact False.elim hq
theorem px_setM {pl : Sem Bool} {n : Str} (hN : X.N.Nodup) (hi : X.N[i]? = some x) (hx : Loc X.env.scope x) (O : OwnC X.K X.mg n C) (F : Mt X.prog X.w X.K X.mg X.base C m ps k sp) (hr : Room k X.A) (ho : PE X.nox o ta) (ha : PA X.nox (e :: es) t)
    (hs : swapsWith (.Call (.Attribute o m apos) (e :: es) [] cpos) (some (.Name x px)) pos.line X.env = pure false := by rfl) (hf : X.fn x = true ∨ X.env.scope.names.lookup x = some .local := by first | exact .inl rfl | exact .inr rfl | assumption)
    (hst : starEach (e :: es) X.env = (false,eval e X.env) :: starEach es X.env := by rfl) (hpl : (backTo cpos (starEach es X.env)).any (·.1) = false := by rfl)
    (ht : eval (.Call (.Attribute o m apos) (e :: es) [] cpos) X.env = (do
      let ov ← eval o X.env
      standAt apos.atName
      let (f,first) ← holding [ov] (getMethod ov m pl)
      callWith cpos f first (backTo cpos (starEach (e :: es) X.env)) (backToKw cpos (keywordEach [] X.env))) := by rfl) :
    PX X (.Assign [.Name x px] (.Call (.Attribute o m apos) (e :: es) [] cpos) pos) (tMethX C m sp ta t i) := by
  obtain ⟨f,fd,hm,hb,G⟩ := F.ex
  intro pins s σ H D R I h
  refine wpAny_Assign_Name (thn (Q := EP X pins σ fun v H2 => D.nx (σ.set i (some v)) H2) ?_ fun v s1 ⟨y,H1,I1,r1,q1⟩ => ?_) hs
  · refine PySem.W.methodCall_KW (pl := pl) (wpAny_mono (ho pins s σ H _ (I.wish _) h) (fun u s1 ⟨x,H1,J1,rx,a,dx,fs,ex,ea,l,q⟩ => ?_) fun _ _ z => False.elim z) ht
    have I1 : Inv X pins σ H1 s1 := J1.unwish
    subst ex
    obtain rfl : u = Value.ref a := rx
    refine getmeth_ok I1 ea O.cls hm l ?_
    refine PySem.W.callWith_K (first := [.ref a]) (h₀ := X.base) I.ok.mod.kin hm.kp (wpAny_mono (ha cpos pins s1 σ H1 _ (I1.wish _) q) (fun us s2 ⟨vs,H2,J2,r,q2⟩ => ?_) fun _ _ z => False.elim z) hst hpl
    have I2 : Inv X pins σ H2 s2 := J2.unwish
    exact ⟨I2.kIn,run_mt (us := .ref a :: us) (vs := .ref a :: vs) hb G hr I2 (.cons rfl r) q2⟩
  · exact store_ok I1 hN hi hx r1 (fun s2 I2 => ⟨_,H1,I2,q1⟩) hf
theorem px_setM0 {pl : Sem Bool} {n : Str} (hN : X.N.Nodup) (hi : X.N[i]? = some x) (hx : Loc X.env.scope x) (O : OwnC X.K X.mg n C) (F : Mt X.prog X.w X.K X.mg X.base C m ps k sp) (hr : Room k X.A) (ho : PE X.nox o ta)
    (hs : swapsWith (.Call (.Attribute o m apos) [] [] cpos) (some (.Name x px)) pos.line X.env = pure false := by rfl) (hf : X.fn x = true ∨ X.env.scope.names.lookup x = some .local := by first | exact .inl rfl | exact .inr rfl | assumption)
    (ht : eval (.Call (.Attribute o m apos) [] [] cpos) X.env = (do
      let ov ← eval o X.env
      standAt apos.atName
      let (f,first) ← holding [ov] (getMethod ov m pl)
      callWith cpos f first (backTo cpos (starEach [] X.env)) (backToKw cpos (keywordEach [] X.env))) := by rfl) :
    PX X (.Assign [.Name x px] (.Call (.Attribute o m apos) [] [] cpos) pos) (tMethX C m sp ta tNil i) := by
  obtain ⟨f,fd,hm,hb,G⟩ := F.ex
  intro pins s σ H D R I h
  refine wpAny_Assign_Name (thn (Q := EP X pins σ fun v H2 => D.nx (σ.set i (some v)) H2) ?_ fun v s1 ⟨y,H1,I1,r1,q1⟩ => ?_) hs
  · refine PySem.W.methodCall_KW (pl := pl) (wpAny_mono (ho pins s σ H _ (I.wish _) h) (fun u s1 ⟨x,H1,J1,rx,a,dx,fs,ex,ea,l,q⟩ => ?_) fun _ _ z => False.elim z) ht
    have I1 : Inv X pins σ H1 s1 := J1.unwish
    subst ex
    obtain rfl : u = Value.ref a := rx
    refine getmeth_ok I1 ea O.cls hm l ?_
    exact PySem.W.callWith_K0 (first := [.ref a]) I1.kIn hm.kp (run_mt (us := [.ref a]) (vs := [.ref a]) hb G hr I1 (.cons rfl .nil) q)
  · exact store_ok I1 hN hi hx r1 (fun s2 I2 => ⟨_,H1,I2,q1⟩) hf
end
section
variable {X : Cx}
inductive rPopA (x : V) (vs : List V) (H : Hp) (Q : VK) : Prop
  | mk : ∀ l xs y,(x = .ref l) → (vs = []) → (H l = some (.lst xs)) → (xs[xs.length - 1]? = some y) → (∀ H',Upd H H' l xs xs.dropLast → Q y H') → rPopA x vs H Q
theorem mt_popA : MtM X "list.pop" rPopA := fun pins s σ H x xs v us Q I rx rs ⟨l,ys,y,e1,e2,h,hy,q⟩ =>
  mt_pop pins s σ H x xs v us Q I rx rs ⟨l,ys,y,e1,e2,h,hy,q _ (.mk' h)⟩
theorem eqg_bool (a b : Bool) : MeetsSeq.EqGives (.bool a) (.bool b) (a == b) := fun prog w _ E _ Q h => PySem.SeqAt.EqAt.bool_bool a b prog w E Q h
def isT : Value → Bool
  | .bool b => b == true
  | _ => false
theorem vals_bl : ∀ {bs : List Bool} {its : List Value},Vals (bs.map V.bl) its → its = bs.map Value.bool
  | [],_,.nil => rfl
  | _ :: _,_,.cons r q => by
    rw [vals_bl q]
    cases r
    rfl
theorem isT_eq {bs : List Bool} : ∀ y,y ∈ (bs.map Value.bool).toArray → MeetsSeq.EqGives y (.bool true) (isT y) := fun y hy => by
  obtain ⟨b,_,rfl⟩ := List.mem_map.mp (List.mem_toArray.mp hy)
  exact eqg_bool b true
theorem count_isT : ∀ bs : List Bool,(bs.map Value.bool).countP isT = bs.count true
  | [] => rfl
  | b :: r => by
    rw [List.map_cons,List.countP_cons,List.count_cons,count_isT r]
    cases b <;> rfl
inductive rCountT (x : V) (vs : List V) (H : Hp) (Q : VK) : Prop
  | mk : ∀ (l : Addr) (bs : List Bool),(x = .ref l) → (vs = [.bl true]) → (H l = some (.lst (bs.map V.bl))) → (Q (.int (bs.count true : Nat)) H) → rCountT x vs H Q
theorem mt_countT : MtM X "list.count" rCountT := by
  intro pins s σ H x vs v us Q I rx rv h
  obtain ⟨l,bs,rfl,rfl,hH,q⟩ := h
  cases rx
  obtain ⟨u,rfl,ru⟩ := rv.one
  cases ru
  obtain ⟨z,its,n,r,hl,e⟩ := I.lstM hH
  have hi := vals_bl r
  subst hi
  refine call_meets F.slot_list_count ⟨_,e,rfl⟩ F.entry_list_count (F.args_list_count_2 _ _) (MeetsSeq.list_count l _ n (.bool true) isT isT_eq) ⟨e,?_⟩
  refine ⟨.int (bs.count true : Nat),H,I.tok _,⟨s.toks,?_⟩,q⟩
  show Value.int (((bs.map Value.bool).countP isT : Nat) : Int) s.toks = _
  rw [count_isT]
inductive rIndexT (x : V) (vs : List V) (H : Hp) (Q : VK) : Prop
  | mk : ∀ (l : Addr) (bs : List Bool) (j : Nat),(x = .ref l) → (vs = [.bl true]) → (H l = some (.lst (bs.map V.bl))) → (bs[j]? = some true) → ((∀ m,m < j → bs[m]? = some false)) → (bs.length ≤ 1000) → (Q (.int (j : Nat)) H) → rIndexT x vs H Q
theorem mt_indexT : MtM X "list.index" rIndexT := by
  intro pins s σ H x vs v us Q I rx rv h
  obtain ⟨l,bs,j,rfl,rfl,hH,hj,hn,hz,q⟩ := h
  cases rx
  obtain ⟨u,rfl,ru⟩ := rv.one
  cases ru
  obtain ⟨z,its,n,r,hl,e⟩ := I.lstM hH
  have hi := vals_bl r
  subst hi
  obtain ⟨hj1,hj2⟩ := List.getElem?_eq_some_iff.mp hj
  refine call_meets F.slot_list_index ⟨_,e,rfl⟩ F.entry_list_index (F.args_list_index_2 _ _) (MeetsSeq.list_index l _ n (.bool true) isT isT_eq j (by simpa using hj1) (by omega) (by simp [hj2,isT]) fun m hm hmj => ?_) ⟨e,?_⟩
  · have := hn m hmj
    obtain ⟨a1,a2⟩ := List.getElem?_eq_some_iff.mp this
    simp [a2,isT]
  · exact ⟨.int (j : Nat),H,I.tok _,⟨_,rfl⟩,q⟩
end
def ItrO (n : Nat) : It := ⟨fun i _ => i < n,fun i H x H' => H' = H ∧ x = .int (1 + i * 2),fun i _ => n ≤ i⟩
def iRngO (ta : TA) : TI := fun σ H R => ta σ H fun vs H1 => ∃ j : Int,vs = [.int 1,.int j,.int 2] ∧ 0 ≤ j ∧ j ≤ 1000 ∧ R (ItrO (j / 2).toNat) H1
theorem pi_rangeO {X : Cx} {tg : Expr} {a b c : Expr} {ta : TA} {p pos : Pos} (hg : Gl X "range") (hm : X.mg "range" = none) (ha : PA X [a,b,c] ta) (hs : starEach [a,b,c] X.env = [(false,eval a X.env),(false,eval b X.env),(false,eval c X.env)] := by rfl) (hs2 : starEach [b,c] X.env = [(false,eval b X.env),(false,eval c X.env)] := by rfl) :
    PI X tg (.Call (.Name "range" p) [a,b,c] [] pos) (iRngO ta) := by
  intro pins s σ H R I h
  refine Call_ (ld_blt I hg hm boot_range (PyProof.Rows.callWith_type1 (thn (ha pos pins s σ H _ I h) fun us s1 ⟨vs,H1,I1,r1,q1⟩ => ?_) (by rw [hs,hs2]) (by rw [hs2]; rfl)))
  obtain ⟨j,e,q1,q2,q⟩ := q1
  subst e
  obtain ⟨u1,us,rfl,⟨t1,rfl⟩,r2⟩ : ∃ u1 us',us = u1 :: us' ∧ RelV (.int 1) u1 ∧ Vals [.int j,.int 2] us' := by
    cases r1 with
    | cons a b => exact ⟨_,_,rfl,a,b⟩
  obtain ⟨u2,u3,rfl,⟨t2,rfl⟩,⟨t3,rfl⟩⟩ := vals2 r2
  have hsz : Builtin.Range.rangeSize 1 j 2 = ((j / 2).toNat : Int) := by
    unfold Builtin.Range.rangeSize
    simp only [show (2 : Int) > 0 by decide,if_true]
    split <;> omega
  have hsm : Builtin.Range.small 1 j 2 = true := by
    unfold Builtin.Range.small
    rw [hsz]
    simp only [Builtin.Range.rangeFitsLong,Bool.and_eq_true,Bool.or_eq_true,decide_eq_true_eq,beq_iff_eq,show (2 : Int) > 0 by decide,if_true]
    omega
  refine callType_new F.called_range (by decide) (F.typeCall_range_3 _ _ _) (F.newCall_range_3 _ _ _) (fun obj => F.initArgs_range_3 obj _ _ _) F.entry_range_new (AutoRange.range___new___type_int_int_int_1 1 j 2 t1 t2 t3 F.called_range.sub (by decide)) ⟨by unfold Builtin.divisionGoesByPylong; rfl,⟨_,Heap.get?_push_size _ rfl,rfl⟩,?_⟩
  refine wpAny_pyIter_range (IsRange.new ..) hsm ?_
  rw [hsz]
  have I2 : Inv X pins σ H1 { s1 with heap := s1.heap.push { cls := .type "range",data := .fields #[.int 1 t1,.int j t2,.int 2 t3] } } := I1.kept (t' := s1.toks) fun b o e => Heap.get?_push_of_some _ e
  refine ⟨_,[(s1.heap.push { cls := .type "range",data := .fields #[.int 1 t1,.int j t2,.int 2 t3] }).objs.size],_,_,H1,rfl,I2.kept (t' := s1.toks) fun b o e => Heap.get?_push_of_some _ e,turn_range2 _ 1 2 (j / 2).toNat,?_,fun b hb => ?_,q⟩
  · show IsRangeIter _ _ (1 + ((0 : Nat) : Int) * 2) (((j / 2).toNat : Int) - ((0 : Nat) : Int)) 2
    rw [show (1 : Int) + ((0 : Nat) : Int) * 2 = 1 from rfl,show (((j / 2).toNat : Int) - ((0 : Nat) : Int)) = ((j / 2).toNat : Int) by omega]
    exact Heap.get?_push_size _ rfl
  · have e : b = (s1.heap.push { cls := .type "range",data := .fields #[.int 1 t1,.int j t2,.int 2 t3] }).objs.size := by simpa using hb
    subst e
    exact I2.fpOk (Nat.le_refl _) (I2.hok.fresh (Nat.le_refl _))
theorem for_rangeO {n : Nat} {g : TG} {tb : TS} {D : Ends} {σ : St} {H : Hp} (Pv : Nat → St → Hp → Prop) (h0 : Pv 0 σ H)
    (hs : ∀ i σ H,i < n → Pv i σ H → g (.int (1 + i * 2)) σ H fun σ2 H2 => tb { D with nx := Pv (i + 1),ct := Pv (i + 1),bk := D.nx } σ2 H2) (hd : ∀ σ H,Pv n σ H → D.nx σ H) :
    ∃ W : Nat → Nat → St → Hp → Prop,(∃ m,W 0 m σ H) ∧ ∀ i m σ H,W i m σ H →
      ((ItrO n).stop i H ∧ D.nx σ H) ∨ ((ItrO n).go i H ∧ ∃ N : St → Hp → Prop,(∀ σ' H',N σ' H' → ∃ m',m' < m ∧ W (i + 1) m' σ' H') ∧ ∀ x H',(ItrO n).yld i H x H' → g x σ H' fun σ2 H2 => tb { D with nx := N,ct := N,bk := D.nx } σ2 H2) := by
  refine ⟨fun i m σ H => m = n - i ∧ i ≤ n ∧ Pv i σ H,⟨n,by simp,Nat.zero_le _,h0⟩,?_⟩
  rintro i m σ H ⟨rfl,hi,p⟩
  by_cases hlt : i < n
  · refine .inr ⟨hlt,Pv (i + 1),fun σ' H' p' => ⟨n - (i + 1),by omega,rfl,hlt,p'⟩,fun x H' ⟨e,y⟩ => ?_⟩
    subst e y
    exact hs i σ _ hlt p
  · have e : i = n := by omega
    subst e
    exact .inl ⟨Nat.le_refl _,hd σ H p⟩
end L2
namespace Hd
open PySem PySem.W PySem.Spec L2
def ownFact (K : Frag) (x : Str) : Bool := match nsIn K mainGlobals x with
  | some (some (.ref C)) => plainGet K C Str.empty && (hasDictIn K C && (plainOver K C && (makesIn K C && keepIn K (.ref C))))
  | _ => false
theorem own_of {K : Frag} {mg : Str → Option Value} {h : Heap} {x : Str} (X : K.In h) (G : h.Ns mainGlobals mg) (e : ownFact K x = true) (sa : findIn K (.ref (cls K x)) "__setattr__" = some (some (.builtin "object.__setattr__"))) : OwnC K mg x (cls K x) := by
  unfold ownFact at e
  split at e
  · rename_i C hC
    have hc : cls K x = C := by unfold cls; rw [hC]
    rw [hc] at sa ⊢
    simp only [Bool.and_eq_true] at e
    obtain ⟨e1,e2,e3,e4,e5⟩ := e
    exact ⟨mg_of X G hC,⟨e1,e2,e3,sa⟩,e4,e5⟩
  · cases e
def mtFact (K : Frag) (x m q : Str) : Option (Arguments × List Stmt × Scope × Value) := match findIn K (.ref (cls K x)) m with
  | some (some (.ref f)) => (match K.lookup f with
    | some ⟨.type n,_,.func fd,_⟩ => (match fd.body,fd.closure with
      | .stmts b,[] => bif (n == "function" && (fd.name == m && (fd.qualname == q && (Nat.beq fd.globals mainGlobals && (Nat.beq fd.builtins builtinsNs && codeIn K fd.code q))))) then some (fd.params,b,fd.scope,fd.defaults) else none
      | _,_ => none)
    | _ => none)
  | _ => none
theorem dfm_of {K : Frag} {x m q : Str} {st : Stmt} (e : mtFact K x m q = some (defArgs st,defBody st,defScope st,.none)) : DfM K (cls K x) m q st := by
  unfold mtFact at e
  split at e
  · rename_i f hf
    split at e
    · rename_i n od fd osl hl
      split at e
      · rename_i b' hb hc
        cases hq : (n == "function" && (fd.name == m && (fd.qualname == q && (Nat.beq fd.globals mainGlobals && (Nat.beq fd.builtins builtinsNs && codeIn K fd.code q))))) with
        | false => rw [hq] at e; cases e
        | true =>
          rw [hq] at e
          simp only [Bool.and_eq_true] at hq
          obtain ⟨h0,h1,h2,h3,h4,h5⟩ := hq
          replace h0 := eq_of_beq h0
          replace h1 := eq_of_beq h1
          replace h2 := eq_of_beq h2
          replace h3 := Nat.eq_of_beq_eq_true h3
          replace h4 := Nat.eq_of_beq_eq_true h4
          simp only [cond_true,Option.some.injEq,Prod.mk.injEq] at e
          obtain ⟨e1,e2,e3,e4⟩ := e
          obtain ⟨n',qn,ps,bd,s,gl,cl,df,kw,dc,pm,an,cd,ct,bl⟩ := fd
          simp only at h1 h2 h3 h4 h5 e1 e2 e3 e4 hb hc
          subst h0 h1 h2 h3 h4 e2 hb hc e4
          refine ⟨⟨f,.type "function",od,kw,dc,pm,an,cd,ct,osl,⟨hf,?_,?_⟩,?_,h5⟩⟩
          · unfold isFn typeIn
            dsimp only
            rw [hl]
            exact beq_self_eq_true _
          · unfold keepIn
            dsimp only
            rw [hl]
          · rw [hl,← e1,← e3]
      · cases e
    · cases e
  · cases e
end Hd
local macro_rules | `(tactic| walk_at "bt") => `(tactic| first
  | assumption
  | (apply L2.bits_mul <;> walk_at "bt")
  | (apply L2.bits_add2 <;> walk_at "bt")
  | (apply L2.bits_sub2 <;> walk_at "bt")
  | (apply L2.bits_neg; walk_at "bt")
  | (apply L2.bits_abs; walk_at "bt")
  | exact L2.bits_lit)
local macro_rules | `(tactic| walk_at "bl") => `(tactic| (apply L2.bits_of_le; (walk_at "bt"); decide))
local macro_rules | `(tactic| walk_at "cm") => `(tactic| first
  | exact L2.CM.l ⟨by decide,by decide⟩
  | exact L2.CM.r ⟨by decide,by decide⟩
  | (apply L2.CM.of; (walk_at "bt"); (walk_at "bt"); decide))
local macro_rules | `(tactic| walk_at "at") => `(tactic| first
  | assumption
  | exact L2.upd_same
  | (refine L2.Same.at (by assumption) ?_; walk_at "at")
  | (refine L2.SameT.at (by assumption) ?_; walk_at "at"))
local macro_rules | `(tactic| walk_at "sm") => `(tactic| first
  | assumption
  | exact L2.Same.rfl'
  | (refine L2.Same.trans ?_ (by assumption); walk_at "sm"))
local macro_rules | `(tactic| walk_at "kn") => `(tactic| first
  | assumption
  | exact ⟨_,.int _⟩ | exact ⟨_,.bl _⟩ | exact ⟨_,.str _⟩ | exact ⟨_,.non⟩
  | exact ⟨_,.tup (by walk_at "at")⟩ | exact ⟨_,.lst (by walk_at "at")⟩ | exact ⟨_,.dict (by walk_at "at")⟩)
local macro_rules | `(tactic| walk_at "nice") => `(tactic| first
  | exact L2.nice_int | exact L2.nice_bool | exact L2.nice_tuple | exact L2.nice_list | exact L2.nice_str)
local macro_rules | `(tactic| walk_at "th") => `(tactic| first
  | assumption
  | exact Sp1.th_flat .non (fun p e => nomatch e) | exact Sp1.th_flat (.int _) (fun p e => nomatch e) | exact Sp1.th_flat (.bl _) (fun p e => nomatch e) | exact Sp1.th_flat (.str _) (fun p e => nomatch e)
  | exact Sp1.th_lst (by walk_at "at")
  | (refine' Sp1.th_tup ?hat ?hkn; (case hat => walk_at "at"); (case hkn => (simp only [List.mem_cons,List.not_mem_nil,or_false,forall_eq_or_imp,forall_eq,false_imp_iff,implies_true]; (try (first | (walk_at "kn") | (repeat' apply And.intro) <;> walk_at "kn")))))
  )
local macro_rules | `(tactic| walk_at "r1") => `(tactic| first
  | (refine ⟨_,rfl,?_⟩)
  | (refine ⟨_,_,rfl,rfl,?_⟩)
  | (refine ⟨_,_,rfl,rfl,by walk_at "cm",?_⟩)
  | (refine ⟨_,_,rfl,rfl,(by show (0 : Int) < _; decide),?_⟩)
  | (refine ⟨_,_,rfl,rfl,⟨by decide,by decide⟩,?_⟩)
  | (refine ⟨_,_,rfl,rfl,⟨by decide,by decide,by decide⟩,?_⟩)
  | (refine' ⟨_,_,_,_,rfl,rfl,L2.SqT.of ?hat,?hix,?nxt⟩; (case hat => walk_at "at"); (case hix => exact rfl))
  | (refine' ⟨_,_,_,_,rfl,rfl,L2.SqL.of ?hat,?hix,?nxt⟩; (case hat => walk_at "at"); (case hix => exact rfl))
  | (refine ⟨by walk_at "cm",?_⟩)
  | (refine ⟨(by show (0 : Int) < _; decide),?_⟩)
  | (refine ⟨⟨by decide,by decide⟩,?_⟩)
  | (refine ⟨⟨by decide,by decide,by decide⟩,?_⟩)
  | (refine ⟨Sp1.sz (by simp),fun _ _ _ _ _ => ?_⟩)
  | (refine ⟨Sp1.sz (by simp),L2.alloc fun _ _ _ _ => ?_⟩)
  | (refine' ⟨_,_,_,_,rfl,rfl,?hat,?hbt,Sp1.sz ?hsz,fun _ _ _ _ _ => ?nxt⟩; (case hat => walk_at "at"); (case hbt => walk_at "at"); (case hsz => simp))
  | (refine' ⟨_,_,_,_,rfl,rfl,?hat,?hbt,Sp1.sz ?hsz,L2.alloc fun _ _ _ _ => ?nxt⟩; (case hat => walk_at "at"); (case hbt => walk_at "at"); (case hsz => simp))
  | (refine' ⟨_,_,rfl,.inl (L2.SqL.of ?hat),?nxt⟩; (case hat => walk_at "at"))
  | (refine' ⟨_,_,rfl,.inr (L2.SqT.of ?hat),?nxt⟩; (case hat => walk_at "at"))
  | (refine' L2.alloc fun _ _ _ _ => ?nxt))
local macro_rules | `(tactic| walk_at "rd") => `(tactic| repeat (walk_at "r1"))
namespace K62
open PySem PySem.Spec L2 Mth Sp1 Sp2 Sp3 Sp7
def top (i : Nat) : Stmt := PySem.Challenge.pw_oneleash_k62_book_of_lines.main.body.getD i (.Pass ⟨0,0,0,0⟩)
def mtop (i j : Nat) : Stmt := match top i with
  | .ClassDef _ _ _ b _ _ _ _ _ _ _ => b.getD j (.Pass ⟨0,0,0,0⟩)
  | x => x
def hNames0 : List (Str × Nat) := [(Str.ofString "is_whole",12),(Str.ofString "is_small",16),(Str.ofString "is_corner",17),(Str.ofString "is_line",18),(Str.ofString "line_of",19),(Str.ofString "is_name",25),(Str.ofString "_law_mixed",28),(Str.ofString "_law_numbers",29),(Str.ofString "_law_names",30),(Str.ofString "_law_corners",31),(Str.ofString "_law_word",32),(Str.ofString "_law_thing",33),(Str.ofString "_law_line",34),(Str.ofString "_law_is_line",35),(Str.ofString "_law_due",36),(Str.ofString "_law_behind",37),(Str.ofString "_law_done",38),(Str.ofString "_law_line_stands",39),(Str.ofString "_law_stands",40),(Str.ofString "law",41)]
def hNamesD : List (Str × Nat × List V) := []
def hExc : List Str := [Str.ofString "LeashError",Str.ofString "NoName",Str.ofString "Twice",Str.ofString "NoLine",Str.ofString "TooMany",Str.ofString "NoSquare",Str.ofString "NoDeed",Str.ofString "NoRow",Str.ofString "NoLines"]
def hNo : List Str := [Str.ofString "ValueError",Str.ofString "all",Str.ofString "bool",Str.ofString "int",Str.ofString "isinstance",Str.ofString "len",Str.ofString "list",Str.ofString "range",Str.ofString "str",Str.ofString "tuple"]
def hTup : List (Str × List V) := []
def hEq0 (K : PySem.W.Frag) : List (Option (Option V)) := [(PySem.W.nsIn K mainGlobals "LARGEST").map (fun o => o.map Hd.bareV),(PySem.W.nsIn K mainGlobals "MOST_CORNERS").map (fun o => o.map Hd.bareV),(PySem.W.nsIn K mainGlobals "MOST_LINES").map (fun o => o.map Hd.bareV),(PySem.W.nsIn K mainGlobals "MOST_LETTERS").map (fun o => o.map Hd.bareV),(PySem.W.nsIn K mainGlobals "LETTERS").map (fun o => o.map Hd.bareV),(PySem.W.nsIn K mainGlobals "NOTHING").map (fun o => o.map Hd.bareV)]
def hVal0 : List (Option (Option V)) := [some (some (.int 999999999999)),some (some (.int 10)),some (some (.int 6)),some (some (.int 8)),some (some (.str (Str.ofString "abcdefghijklmnopqrstuvwxyz"))),some (some (.str (Str.ofString "none")))]
def hEq1 (K : PySem.W.Frag) : List (Option (Option Value)) := [PySem.W.findIn K (.ref (Hd.cls K "Book")) "__setattr__",PySem.W.findIn K (.ref (Hd.cls K "Book")) "kept",PySem.W.findIn K (.ref (Hd.cls K "Book")) "earlier"]
def hVal1 : List (Option (Option Value)) := [some (some (.builtin "object.__setattr__")),some none,some none]
def hEq2 (K : PySem.W.Frag) : List (Option Bool) := [Hd.exmR K (Hd.cls K "NoName") (Hd.cls K "LeashError"),Hd.kitT K (Hd.cls K "NoName"),Hd.kitR K (Hd.cls K "NoName") (Hd.cls K "NoName"),Hd.kitR K (Hd.cls K "NoName") (Hd.cls K "Twice"),Hd.kitR K (Hd.cls K "NoName") (Hd.cls K "NoLine"),Hd.kitR K (Hd.cls K "NoName") (Hd.cls K "TooMany"),Hd.kitR K (Hd.cls K "NoName") (Hd.cls K "NoSquare"),Hd.kitR K (Hd.cls K "NoName") (Hd.cls K "NoDeed"),Hd.kitR K (Hd.cls K "NoName") (Hd.cls K "NoRow"),Hd.kitR K (Hd.cls K "NoName") (Hd.cls K "NoLines"),Hd.exmR K (Hd.cls K "Twice") (Hd.cls K "LeashError"),Hd.kitT K (Hd.cls K "Twice"),Hd.kitR K (Hd.cls K "Twice") (Hd.cls K "NoName"),Hd.kitR K (Hd.cls K "Twice") (Hd.cls K "Twice"),Hd.kitR K (Hd.cls K "Twice") (Hd.cls K "NoLine"),Hd.kitR K (Hd.cls K "Twice") (Hd.cls K "TooMany"),Hd.kitR K (Hd.cls K "Twice") (Hd.cls K "NoSquare"),Hd.kitR K (Hd.cls K "Twice") (Hd.cls K "NoDeed"),Hd.kitR K (Hd.cls K "Twice") (Hd.cls K "NoRow"),Hd.kitR K (Hd.cls K "Twice") (Hd.cls K "NoLines"),Hd.exmR K (Hd.cls K "NoLine") (Hd.cls K "LeashError"),Hd.kitT K (Hd.cls K "NoLine"),Hd.kitR K (Hd.cls K "NoLine") (Hd.cls K "NoName"),Hd.kitR K (Hd.cls K "NoLine") (Hd.cls K "Twice"),Hd.kitR K (Hd.cls K "NoLine") (Hd.cls K "NoLine"),Hd.kitR K (Hd.cls K "NoLine") (Hd.cls K "TooMany"),Hd.kitR K (Hd.cls K "NoLine") (Hd.cls K "NoSquare"),Hd.kitR K (Hd.cls K "NoLine") (Hd.cls K "NoDeed"),Hd.kitR K (Hd.cls K "NoLine") (Hd.cls K "NoRow"),Hd.kitR K (Hd.cls K "NoLine") (Hd.cls K "NoLines"),Hd.exmR K (Hd.cls K "TooMany") (Hd.cls K "LeashError"),Hd.kitT K (Hd.cls K "TooMany"),Hd.kitR K (Hd.cls K "TooMany") (Hd.cls K "NoName"),Hd.kitR K (Hd.cls K "TooMany") (Hd.cls K "Twice"),Hd.kitR K (Hd.cls K "TooMany") (Hd.cls K "NoLine"),Hd.kitR K (Hd.cls K "TooMany") (Hd.cls K "TooMany"),Hd.kitR K (Hd.cls K "TooMany") (Hd.cls K "NoSquare"),Hd.kitR K (Hd.cls K "TooMany") (Hd.cls K "NoDeed"),Hd.kitR K (Hd.cls K "TooMany") (Hd.cls K "NoRow"),Hd.kitR K (Hd.cls K "TooMany") (Hd.cls K "NoLines"),Hd.exmR K (Hd.cls K "NoDeed") (Hd.cls K "LeashError"),Hd.kitT K (Hd.cls K "NoDeed"),Hd.kitR K (Hd.cls K "NoDeed") (Hd.cls K "NoName"),Hd.kitR K (Hd.cls K "NoDeed") (Hd.cls K "Twice"),Hd.kitR K (Hd.cls K "NoDeed") (Hd.cls K "NoLine"),Hd.kitR K (Hd.cls K "NoDeed") (Hd.cls K "TooMany"),Hd.kitR K (Hd.cls K "NoDeed") (Hd.cls K "NoSquare"),Hd.kitR K (Hd.cls K "NoDeed") (Hd.cls K "NoDeed"),Hd.kitR K (Hd.cls K "NoDeed") (Hd.cls K "NoRow"),Hd.kitR K (Hd.cls K "NoDeed") (Hd.cls K "NoLines")]
def hVal2 : List (Option Bool) := [some true,some true,some true,some false,some false,some false,some false,some false,some false,some false,some true,some true,some false,some true,some false,some false,some false,some false,some false,some false,some true,some true,some false,some false,some true,some false,some false,some false,some false,some false,some true,some true,some false,some false,some false,some true,some false,some false,some false,some false,some true,some true,some false,some false,some false,some false,some false,some true,some false,some false]
def hEq3 (K : PySem.W.Frag) : List (Bool) := [Hd.findR K (Hd.cls K "NoName") "__getattribute__",Hd.findR K (Hd.cls K "NoName") "__getattr__",Hd.findR K (Hd.cls K "NoName") "__class__",Hd.findR K (Hd.cls K "Twice") "__getattribute__",Hd.findR K (Hd.cls K "Twice") "__getattr__",Hd.findR K (Hd.cls K "Twice") "__class__",Hd.findR K (Hd.cls K "NoLine") "__getattribute__",Hd.findR K (Hd.cls K "NoLine") "__getattr__",Hd.findR K (Hd.cls K "NoLine") "__class__",Hd.findR K (Hd.cls K "TooMany") "__getattribute__",Hd.findR K (Hd.cls K "TooMany") "__getattr__",Hd.findR K (Hd.cls K "TooMany") "__class__",Hd.findR K (Hd.cls K "NoDeed") "__getattribute__",Hd.findR K (Hd.cls K "NoDeed") "__getattr__",Hd.findR K (Hd.cls K "NoDeed") "__class__"]
def hVal3 : List (Bool) := [true,true,true,true,true,true,true,true,true,true,true,true,true,true,true]
def hOwn : List Str := [Str.ofString "Book"]
def hMt : List (Str × Str × Str × Stmt) := [(Str.ofString "Book",Str.ofString "__init__",Str.ofString "Book.__init__",mtop 26 0),(Str.ofString "Book",Str.ofString "change_to",Str.ofString "Book.change_to",mtop 26 1),(Str.ofString "Book",Str.ofString "change_line",Str.ofString "Book.change_line",mtop 26 2),(Str.ofString "Book",Str.ofString "names",Str.ofString "Book.names",mtop 26 3),(Str.ofString "Book",Str.ofString "line",Str.ofString "Book.line",mtop 26 4),(Str.ofString "Book",Str.ofString "put",Str.ofString "Book.put",mtop 26 5),(Str.ofString "Book",Str.ofString "strike",Str.ofString "Book.strike",mtop 26 6),(Str.ofString "Book",Str.ofString "turn",Str.ofString "Book.turn",mtop 26 7),(Str.ofString "Book",Str.ofString "back",Str.ofString "Book.back",mtop 26 9)]
def hF0 (K : PySem.W.Frag) : List (Option (Arguments × List Stmt × Scope × Value)) := hNames0.map (fun p => Hd.fnFact K p.1)
def hG0 : List (Option (Arguments × List Stmt × Scope × Value)) := hNames0.map (fun p => some (defArgs (top p.2),defBody (top p.2),defScope (top p.2),.none))
def hF1 (K : PySem.W.Frag) : List (Option (Arguments × List Stmt × Scope × List V)) × Bool × Bool × List (Option (List V)) × Bool × List (Option (Arguments × List Stmt × Scope × Value)) × List (Option (Option V)) × List (Option (Option Value)) × List (Option Bool) × List (Bool) := (hNamesD.map (fun p => Hd.fnFactD K p.1),hExc.all (Hd.excFact K),hNo.all (Hd.noFact K),hTup.map (fun p => Hd.tupFact K p.1),hOwn.all (Hd.ownFact K),hMt.map (fun p => Hd.mtFact K p.1 p.2.1 p.2.2.1),hEq0 K,hEq1 K,hEq2 K,hEq3 K)
def hG1 : List (Option (Arguments × List Stmt × Scope × List V)) × Bool × Bool × List (Option (List V)) × Bool × List (Option (Arguments × List Stmt × Scope × Value)) × List (Option (Option V)) × List (Option (Option Value)) × List (Option Bool) × List (Bool) := (hNamesD.map (fun p => some (defArgs (top p.2.1),defBody (top p.2.1),defScope (top p.2.1),p.2.2)),true,true,hTup.map (fun p => some p.2),true,hMt.map (fun p => some (defArgs p.2.2.2,defBody p.2.2.2,defScope p.2.2.2,.none)),hVal0,hVal1,hVal2,hVal3)
def hFacts (K : PySem.W.Frag) : (List (Option (Arguments × List Stmt × Scope × Value))) × (List (Option (Arguments × List Stmt × Scope × List V)) × Bool × Bool × List (Option (List V)) × Bool × List (Option (Arguments × List Stmt × Scope × Value)) × List (Option (Option V)) × List (Option (Option Value)) × List (Option Bool) × List (Bool)) := (hF0 (K),hF1 (K))
def hGood : (List (Option (Arguments × List Stmt × Scope × Value))) × (List (Option (Arguments × List Stmt × Scope × List V)) × Bool × Bool × List (Option (List V)) × Bool × List (Option (Arguments × List Stmt × Scope × Value)) × List (Option (Option V)) × List (Option (Option Value)) × List (Option Bool) × List (Bool)) := (hG0,hG1)
def hView : Program := PySem.W.view PySem.Challenge.pw_oneleash_k62_book_of_lines [41]
def hLoose : List Str := [Str.ofString "_wall",Str.ofString "LeashError",Str.ofString "NoLine",Str.ofString "NoSquare",Str.ofString "NoLines",Str.ofString "NoName",Str.ofString "Twice",Str.ofString "TooMany",Str.ofString "NoRow",Str.ofString "NoDeed",Str.ofString "is_whole",Str.ofString "MOST_CORNERS",Str.ofString "LARGEST",Str.ofString "is_small",Str.ofString "is_corner",Str.ofString "is_line",Str.ofString "line_of",Str.ofString "MOST_LINES",Str.ofString "MOST_LETTERS",Str.ofString "LETTERS",Str.ofString "NOTHING",Str.ofString "is_name",Str.ofString "Book",Str.ofString "_law_mixed",Str.ofString "_law_numbers",Str.ofString "_law_names",Str.ofString "_law_corners",Str.ofString "_law_word",Str.ofString "_law_thing",Str.ofString "_law_line",Str.ofString "_law_is_line",Str.ofString "_law_due",Str.ofString "_law_behind",Str.ofString "_law_done",Str.ofString "_law_line_stands",Str.ofString "_law_stands"]
noncomputable def hRunS (w : World) := (PySem.W.openEnds treeTable PySem.Challenge.pw_oneleash_k62_book_of_lines w 100000).map (fun s => (PySem.W.openSeen hView hLoose (importedModules PySem.Challenge.pw_oneleash_k62_book_of_lines.main.body) (fun _ => true) true s,hF0 (Hd.frag s.heap),hF1 (Hd.frag s.heap)))
noncomputable def hEndS := some ((PySem.W.openGood hView hLoose,hG0,hG1))
theorem hRunS_self : @hRunS = @hRunS := rfl
theorem hEndS_self : @hEndS = @hEndS := rfl
set_option maxHeartbeats 0 in
lay_quick K62.hRunS K62.hEndS
name_quick hRunSQ for K62.hRunS by K62.hRunS_self
name_quick hEndSQ for K62.hEndS by K62.hEndS_self
set_option maxHeartbeats 0 in
theorem hQuickS (w : World) : PySem.W.Fast.hRunSQ w = PySem.W.Fast.hEndSQ := by kernel_rfl
theorem hOneS (w : World) : hRunS w = hEndS := (congrFun PySem.W.Fast.hRunSQ_eq w).trans ((hQuickS w).trans PySem.W.Fast.hEndSQ_eq.symm)
theorem hAll (w : World) : (PySem.W.openEnds treeTable PySem.Challenge.pw_oneleash_k62_book_of_lines w 100000).map (fun s => (PySem.W.openSeen hView hLoose (importedModules PySem.Challenge.pw_oneleash_k62_book_of_lines.main.body) (fun _ => true) true s,hFacts (Hd.frag s.heap))) = some (PySem.W.openGood hView hLoose,hGood) := by
  have rS : (PySem.W.openEnds treeTable PySem.Challenge.pw_oneleash_k62_book_of_lines w 100000).map (fun s => (PySem.W.openSeen hView hLoose (importedModules PySem.Challenge.pw_oneleash_k62_book_of_lines.main.body) (fun _ => true) true s,hF0 (Hd.frag s.heap),hF1 (Hd.frag s.heap))) = some ((PySem.W.openGood hView hLoose,hG0,hG1)) := hOneS w
  skip
  generalize (PySem.W.openEnds treeTable PySem.Challenge.pw_oneleash_k62_book_of_lines w 100000) = x at *
  cases x with
  | none => cases rS
  | some s =>
    have zS := Option.some.inj rS
    show some (PySem.W.openSeen hView hLoose (importedModules PySem.Challenge.pw_oneleash_k62_book_of_lines.main.body) (fun _ => true) true s,hFacts (Hd.frag s.heap)) = _
    unfold hFacts hGood
    have z := (congrArg Prod.fst zS)
    have q0 := (congrArg Prod.fst (congrArg Prod.snd zS))
    have q1 := (congrArg Prod.snd (congrArg Prod.snd zS))
    exact congrArg some (Hd.pair2 z (Hd.pair2 q0 q1))
structure Txt (mg : Str → Option Value) : Prop where
  z_ValueError : mg "ValueError" = none
  z_all : mg "all" = none
  z_bool : mg "bool" = none
  z_int : mg "int" = none
  z_isinstance : mg "isinstance" = none
  z_len : mg "len" = none
  z_list : mg "list" = none
  z_range : mg "range" = none
  z_str : mg "str" = none
  z_tuple : mg "tuple" = none
section
variable {P : Program} {w : World} {K : PySem.W.Frag} {mg : Str → Option Value} {base : Heap} {C_Book : Addr}
theorem S_is_whole : FnScope ["thing"] ["thing"] (defScope (top 12)) := ⟨rfl,rfl,rfl,by decide +kernel,rfl,by decide +kernel,by decide +kernel⟩
theorem fn_is_whole (D_is_whole : Df K mg "is_whole" (top 12)) (T : Txt mg) : Fn P w K mg base "is_whole" ["thing"] 1 spWhole := by
  refine D_is_whole.fn S_is_whole (fun _ _ _ _ _ _ us hl => match us,hl with | [_],_ => rfl) (fun vs H Q E h => ?_) (fun f cdv A outer s H vs Q E hr h => ?_)
  · obtain ⟨x,t,rfl,_⟩ := h
    rfl
  · obtain ⟨x,t,rfl,k,q⟩ := h
    refine ⟨_,(pss_one (ps_ret (pe_and (pe_callB call_isinst (by rfl) T.z_isinstance bt_isinstance (pa_cons (pv 0) (pa_cons (pe_ty T.z_int bt_int) pa_nil))) (pe_one (pe_not (pe_callB call_isinst (by rfl) T.z_isinstance bt_isinstance (pa_cons (pv 0) (pa_cons (pe_ty T.z_bool bt_bool) pa_nil)))))))),?_⟩
    refine ⟨_,rfl,x,t,"int",rfl,k,.inl rfl,_,rfl,?_⟩
    refine ite3 (fun hc => ?_) (fun hc => ?_)
    · refine ⟨_,rfl,x,t,"bool",rfl,k,.inr (.inl rfl),_,rfl,?_⟩
      rw [(whole_sub k).1 hc]
      exact q
    · rw [(whole_sub k).2 hc] at q
      exact q
theorem S_is_small : FnScope ["thing"] ["thing"] (defScope (top 16)) := ⟨rfl,rfl,rfl,by decide +kernel,rfl,by decide +kernel,by decide +kernel⟩
theorem fn_is_small (D_is_small : Df K mg "is_small" (top 16)) (V_LARGEST : ∃ tk,mg "LARGEST" = some (.int 999999999999 tk)) (F_is_whole : Fn P w K mg base "is_whole" ["thing"] 1 spWhole) : Fn P w K mg base "is_small" ["thing"] 2 spSmall := by
  obtain ⟨tL,G_LARGEST⟩ := V_LARGEST
  refine D_is_small.fn S_is_small (fun _ _ _ _ _ _ us hl => match us,hl with | [_],_ => rfl) (fun vs H Q E h => ?_) (fun f cdv A outer s H vs Q E hr h => ?_)
  · obtain ⟨x,t,rfl,_⟩ := h
    rfl
  · obtain ⟨x,t,rfl,k,q⟩ := h
    refine ⟨_,(pss_one (ps_ret (pe_and (pe_fn F_is_whole (hr.mono (by decide)) (by rfl) (pa_cons (pv 0) pa_nil)) (pe_one (pe_chain op_le op_le (pe_un un_neg (pe_glob (v := .int 999999999999) (by rfl) G_LARGEST ⟨_,rfl⟩)) (pv 0) (pe_glob (v := .int 999999999999) (by rfl) G_LARGEST ⟨_,rfl⟩)))))),?_⟩
    refine ⟨_,rfl,x,t,rfl,k,_,rfl,?_⟩
    rcases Kn.cases_int k with ⟨a,rfl,rfl⟩ | ⟨nx,ex⟩
    · refine iteTrue rfl ?_
      refine ⟨_,rfl,_,rfl,_,_,rfl,rfl,_,rfl,ite3 (fun hd => ?_) (fun hd => ?_)⟩
      · have z : smallV (.int a) = decide (a ≤ 999999999999) := by
          show (decide (-larg ≤ a) && decide (a ≤ larg)) = _
          rw [show decide (-larg ≤ a) = true from hd]
          rfl
        rw [z] at q
        exact ⟨_,_,rfl,rfl,q⟩
      · have z : smallV (.int a) = false := by
          show (decide (-larg ≤ a) && decide (a ≤ larg)) = _
          rw [show decide (-larg ≤ a) = false from hd]
          rfl
        rw [z] at q
        exact q
    · rw [smallV_no nx] at q
      rw [ex]
      exact iteF q
theorem S_is_corner : FnScope ["thing"] ["thing"] (defScope (top 17)) := ⟨rfl,rfl,rfl,by decide +kernel,rfl,by decide +kernel,by decide +kernel⟩
theorem fn_is_corner (D_is_corner : Df K mg "is_corner" (top 17)) (F_is_small : Fn P w K mg base "is_small" ["thing"] 2 spSmall) (T : Txt mg) : Fn P w K mg base "is_corner" ["thing"] 3 spCorner := by
  refine D_is_corner.fn S_is_corner (fun _ _ _ _ _ _ us hl => match us,hl with | [_],_ => rfl) (fun vs H Q E h => ?_) (fun f cdv A outer s H vs Q E hr h => ?_)
  · obtain ⟨x,rfl,_⟩ := h
    rfl
  · obtain ⟨x,rfl,th,q⟩ := h
    obtain ⟨t,k⟩ := th.kn
    refine ⟨_,(pss_one (ps_ret (pe_and (pe_callB call_isinst (by rfl) T.z_isinstance bt_isinstance (pa_cons (pv 0) (pa_cons (pe_ty T.z_tuple bt_tuple) pa_nil))) (pe_and (pe_cmpR op_eq (pe_callB call_len_seq (by rfl) T.z_len bt_len (pa_cons (pv 0) pa_nil)) pe_int (nomark _)) (pe_and (pe_fn F_is_small (hr.mono (by decide)) (by rfl) (pa_cons (pe_ix ix_tup (pv 0) pe_int (fun _ _ => rfl)) pa_nil)) (pe_one (pe_fn F_is_small (hr.mono (by decide)) (by rfl) (pa_cons (pe_ix ix_tup (pv 0) pe_int (fun _ _ => rfl)) pa_nil)))))))),?_⟩
    refine ⟨_,rfl,x,t,"tuple",rfl,k,.inr (.inr (.inl rfl)),_,rfl,?_⟩
    rcases Kn.cases_tp k with ⟨p,xs,rfl,e,rfl⟩ | ⟨hl,hs⟩
    · rw [cornV_tup e] at q
      refine iteTrue (by decide) ?_
      refine ⟨_,rfl,p,xs,rfl,.inr (SqT.of e),rfl,_,rfl,ite3 (fun hc => ?_) (fun hc => ?_)⟩
      · have hn : xs.length = 2 := by
          have z : (xs.length : Int) = 2 := by simpa using hc
          omega
        match xs,hn,e,q with
        | [y,z],_,e,q =>
          obtain ⟨ty,ky⟩ := th.parts p _ rfl e y (by simp)
          obtain ⟨tz,kz⟩ := th.parts p _ rfl e z (by simp)
          have q : Q (.bl (smallV y && smallV z)) H := q
          refine ⟨_,rfl,p,_,_,_,rfl,rfl,SqT.of e,rfl,y,ty,rfl,ky,_,rfl,ite3 (fun h1 => ?_) (fun h1 => ?_)⟩
          · rw [h1,Bool.true_and] at q
            exact ⟨_,rfl,p,_,_,_,rfl,rfl,SqT.of e,rfl,z,tz,rfl,kz,q⟩
          · rw [h1,Bool.false_and] at q
            exact q
      · have hn : xs.length ≠ 2 := by
          intro z
          rw [z] at hc
          exact absurd hc (by decide)
        rw [cornL_len hn] at q
        exact q
    · rw [hl] at q
      rw [hs]
      exact iteF q
theorem S_is_line : FnScope ["thing"] ["thing"] (defScope (top 18)) := ⟨rfl,rfl,rfl,by decide +kernel,rfl,by decide +kernel,by decide +kernel⟩
theorem fn_is_line (D_is_line : Df K mg "is_line" (top 18)) (V_MOST : ∃ tk,mg "MOST_CORNERS" = some (.int 10 tk)) (F_is_corner : Fn P w K mg base "is_corner" ["thing"] 3 spCorner) (T : Txt mg) : Fn P w K mg base "is_line" ["thing"] 4 spIsLine := by
  obtain ⟨tM,G_MOST_CORNERS⟩ := V_MOST
  refine D_is_line.fn S_is_line (fun _ _ _ _ _ _ us hl => match us,hl with | [_],_ => rfl) (fun vs H Q E h => ?_) (fun f cdv A outer s H vs Q E hr h => ?_)
  · obtain ⟨x,rfl,_⟩ := h
    rfl
  · obtain ⟨x,rfl,lt,q⟩ := h
    have CN : CompN (cxOf CX0 P w K mg base ["thing"] "is_line" (defScope (top 18)) f cdv A outer s H E).nox (retScope ((defBody (top 18)).getD 1 (.Pass ⟨0,0,0,0⟩))) [] "corner" [] :=
      ⟨by rfl,rfl,by decide +kernel,by decide +kernel,rfl,(fun p hp => nomatch hp),by rfl,by decide +kernel,(fun p hp => nomatch hp),⟨rfl,rfl⟩,rfl⟩
    obtain ⟨t,k⟩ := lt.kn
    refine ⟨_,(pss_cons (ps_if (pw_or (pt_not (pt_val (pe_callB call_isinst (by rfl) T.z_isinstance bt_isinstance (pa_cons (pv 0) (pa_cons (pe_ty T.z_list bt_list) pa_nil))))) (pw_or1 (pt_not (pt_chain op_le op_le pe_int (pe_callB call_len_seq (by rfl) T.z_len bt_len (pa_cons (pv 0) pa_nil)) (pe_glob (v := .int 10) (by rfl) G_MOST_CORNERS ⟨_,rfl⟩))))).pt (pss_one (ps_ret pe_bl)) pss_nil) (pss_one (ps_ret (pe_callB (call_all rfl) (by rfl) T.z_all bt_all (pa_cons ((pe_comp rfl CN (pi_list (pv 0)) (fun fp s₀ H₀ => (pe_fn F_is_corner (hr.mono (by decide)) (by rfl) (pa_cons (pv 0) pa_nil))))) pa_nil))))),?_⟩
    refine ⟨_,rfl,x,t,"list",rfl,k,.inr (.inr (.inr (.inl rfl))),_,rfl,?_⟩
    rcases Kn.cases_lst k with ⟨p,xs,rfl,e,rfl⟩ | ⟨hl,hs⟩
    · refine iteFalse (by decide) ?_
      obtain ⟨h100,hth⟩ := lt.parts p xs rfl e
      rw [lineV_lst e] at q
      unfold lineL at q
      have bad : (decide ((1 : Int) ≤ (xs.length : Int)) && decide ((xs.length : Int) ≤ 10)) = false → Q (.bl false) H := fun z => by
        have y := q H (Same.refl _)
        rw [z,Bool.false_and] at y
        exact y
      refine ⟨_,rfl,p,xs,rfl,.inl (SqL.of e),_,_,rfl,rfl,_,rfl,ite3 (fun h1 => ?_) (fun h1 => ?_)⟩
      · refine ⟨_,_,rfl,rfl,_,rfl,ite3 (fun h2 => ?_) (fun h2 => ?_)⟩
        · exact bad (by rw [h1,show decide ((xs.length : Int) ≤ 10) = false by simpa using h2]; rfl)
        · have z : (decide ((1 : Int) ≤ (xs.length : Int)) && decide ((xs.length : Int) ≤ 10)) = true := by rw [h1,show decide ((xs.length : Int) ≤ 10) = true by simpa using h2]; rfl
          rw [z,Bool.true_and] at q
          refine ⟨_,rfl,p,rfl,⟨_,SqL.of e⟩,fun l hl => ?_⟩
          refine comp_list (K := K) (a := p) (xs := xs) (l := l) (fv := []) (fun i acc H2 => i ≤ xs.length ∧ acc = ((xs.take i).map (cornV H)).map V.bl ∧ Same H H2 ∧ H2 l = some (.lst acc))
            ⟨Nat.zero_le _,rfl,Same.new hl,upd_same⟩ ?_ ?_ ?_
          · rintro i acc H2 hi ⟨_,rfl,sm,e3⟩
            exact ⟨SqL.of (sm _ _ e),e3,small1000 (by rw [List.length_map,List.length_map,List.length_take]; omega)⟩
          · rintro i y acc H2 Kc hy ⟨hi,rfl,sm,e3⟩ kk
            have hlt : i < xs.length := (List.getElem?_eq_some_iff.mp hy).1
            have ty := hth y (List.mem_of_getElem? hy)
            obtain ⟨kd,kn⟩ := ty.kn
            refine ⟨_,rfl,y,rfl,Thing.mono ty sm,kk _ _ e3 ⟨hlt,?_,fun b o eb => ?_,upd_same⟩⟩
            · rw [cornV_same kn sm,List.take_add_one,hy,List.map_append,List.map_append]
              rfl
            · rw [upd_ne (ne_of_none eb hl)]
              exact sm b o eb
          · rintro acc H2 ⟨_,rfl,sm,e3⟩
            rw [List.take_length] at e3
            have y := q H2 sm
            have al : xs.all (cornV H) = (xs.map (cornV H)).all id := by rw [List.all_map]; rfl
            rw [al] at y
            exact ⟨l,xs.map (cornV H),rfl,SqL.of e3,y⟩
      · refine ⟨_,rfl,iteT (bad ?_)⟩
        rw [h1]
        rfl
    · have y := q H (Same.refl _)
      rw [hl] at y
      rw [hs]
      exact iteT y
theorem S_line_of : FnScope ["thing"] ["thing"] (defScope (top 19)) := ⟨rfl,rfl,rfl,by decide +kernel,rfl,by decide +kernel,by decide +kernel⟩
theorem fn_line_of {C : Addr} (D_line_of : Df K mg "line_of" (top 19)) (O_NoLine : ExcC K mg "NoLine" C) (F_is_line : Fn P w K mg base "is_line" ["thing"] 4 spIsLine) : Fx P w K mg base "line_of" ["thing"] 5 [] (spLineOf C) := by
  refine D_line_of.fx S_line_of (fun _ _ _ _ _ _ us hl => match us,hl with | [_],_ => rfl) (fun vs H Q E h => ?_) (fun f cdv A outer s H vs Q E hr h => ?_)
  · obtain ⟨x,rfl,_⟩ := h
    rfl
  · obtain ⟨x,rfl,lt,h⟩ := h
    have CN : CompN (cxOf (CXE P w) P w K mg base ["thing"] "line_of" (defScope (top 19)) f cdv A outer s H E) (retScope ((defBody (top 19)).getD 1 (.Pass ⟨0,0,0,0⟩))) [] "corner" [] :=
      ⟨by rfl,rfl,by decide +kernel,by decide +kernel,rfl,(fun p hp => nomatch hp),by rfl,by decide +kernel,(fun p hp => nomatch hp),⟨rfl,rfl⟩,rfl⟩
    refine ⟨_,(pss_cons (ps_if (pt_not (pt_val (pe_fn F_is_line (hr.mono (by decide)) (by rfl) (pa_cons (pv 0) pa_nil)))) (pss_one (ps_raise O_NoLine (by rfl))) pss_nil) (pss_one (ps_ret ((pe_comp rfl CN (pi_list (pv 0)) (fun fp s₀ H₀ => (pe_tup (pa_cons (pe_ix (ix_tupK (K := K) rfl) (pv 0) pe_int (fun _ _ => rfl)) (pa_cons (pe_ix (ix_tupK (K := K) rfl) (pv 0) pe_int (fun _ _ => rfl)) pa_nil))))))))),?_⟩
    refine ⟨_,rfl,x,rfl,lt,fun H1 s1 => ⟨_,rfl,?_⟩⟩
    rcases h with ⟨hb,hE⟩ | ⟨p,qs,rfl,L,k⟩
    · rw [hb]
      exact iteT (hE H1 s1)
    rw [L.good]
    refine iteF ?_
    have L1 := L.mono s1
    have hq := L.len
    have hll : (qs.map fun (q : Addr × Int × Int) => V.ref q.1).length = qs.length := List.length_map _
    refine ⟨_,rfl,p,rfl,⟨_,SqL.of L1.at_.lst⟩,fun l hl => ?_⟩
    refine comp_list (K := K) (a := p) (xs := qs.map fun (q : Addr × Int × Int) => V.ref q.1) (l := l) (fv := []) (fun i acc H2 => ∃ rs : Crn,i ≤ qs.length ∧ acc = rs.map (fun z => V.ref z.1) ∧ rs.map (·.2) = (qs.take i).map (·.2) ∧ (∀ z ∈ rs,H1 z.1 = none ∧ H2 z.1 = some (.tup [.int z.2.1,.int z.2.2])) ∧ Same H1 H2 ∧ H2 l = some (.lst acc))
      ⟨[],Nat.zero_le _,rfl,rfl,(fun z h => nomatch h),Same.new hl,upd_same⟩ ?_ ?_ ?_
    · rintro i acc H2 hi ⟨rs,hi',rfl,er,_,sm,e3⟩
      have z := congrArg List.length er
      rw [List.length_map,List.length_map,List.length_take] at z
      exact ⟨SqL.of (sm _ _ L1.at_.lst),e3,small1000 (by rw [List.length_map]; omega)⟩
    · rintro i y acc H2 Kc hy ⟨rs,hi,rfl,er,hrs,sm,e3⟩ kk
      rw [List.getElem?_map] at hy
      obtain ⟨q,hqi,rfl⟩ := Option.map_eq_some_iff.mp hy
      have hlt : i < qs.length := (List.getElem?_eq_some_iff.mp hqi).1
      have c := (L1.at_.crn q (List.mem_of_getElem? hqi)).1
      have c2 := sm _ _ c
      refine ⟨_,rfl,q.1,_,_,_,rfl,rfl,SqT.of c2,rfl,_,rfl,q.1,_,_,_,rfl,rfl,SqT.of c2,rfl,sz (by simp),fun pt hpt => ?_⟩
      have npl : pt ≠ l := fun z => by
        subst z
        rw [hpt] at e3
        cases e3
      have s4 : Same H2 (upd H2 pt (.tup [.int q.2.1,.int q.2.2])) := Same.new hpt
      refine kk (.ref pt) _ (s4 _ _ e3) ⟨rs ++ [(pt,q.2)],hlt,by rw [List.map_append]; rfl,?_,fun z hz => ?_,fun b o eb => ?_,upd_same⟩
      · rw [List.map_append,er,List.take_add_one,hqi,List.map_append]
        rfl
      · have nl : ∀ {a : Addr} {o : HO},H1 a = none → upd H2 pt (.tup [.int q.2.1,.int q.2.2]) a = some o → (∃ u,o = .tup u) → a ≠ l := fun {a o} _ h2 ho z => by
          subst z
          obtain ⟨u,rfl⟩ := ho
          rw [s4 _ _ e3] at h2
          cases h2
        rcases List.mem_append.mp hz with hz | hz
        · obtain ⟨h0,h2⟩ := hrs z hz
          refine ⟨h0,?_⟩
          rw [upd_ne (nl h0 (s4 _ _ h2) ⟨_,rfl⟩)]
          exact s4 _ _ h2
        · rw [List.mem_singleton.mp hz]
          refine ⟨Same.free sm hpt,?_⟩
          rw [upd_ne npl]
          exact upd_same
      · rw [upd_ne (ne_of_none eb hl)]
        exact s4 _ _ (sm b o eb)
    · rintro acc H2 ⟨rs,_,rfl,er,hrs,sm,e3⟩
      rw [hll,List.take_length] at er
      refine k l rs H2 (Same.free s1 hl) (fun z hz => Same.free s1 (hrs z hz).1) er ⟨e3,fun z hz => ⟨(hrs z hz).2,?_⟩⟩ (s1.trans sm)
      have m : z.2 ∈ qs.map (·.2) := by
        rw [← er]
        exact List.mem_map.mpr ⟨z,hz,rfl⟩
      obtain ⟨q,hq',eq⟩ := List.mem_map.mp m
      rw [← eq]
      exact (L.at_.crn q hq').2
theorem S_law_mixed : FnScope ["cell","k","number"] ["cell","k"] (defScope (top 28)) := ⟨rfl,rfl,rfl,by decide +kernel,rfl,by decide +kernel,by decide +kernel⟩
theorem fn_law_mixed (D_law_mixed : Df K mg "_law_mixed" (top 28)) : Fn P w K mg base "_law_mixed" ["cell","k"] 1 spMixed := by
  refine D_law_mixed.fn S_law_mixed (fun _ _ _ _ _ _ us hl => match us,hl with | [_,_],_ => rfl) (fun vs H Q E h => ?_) (fun f cdv A outer s H vs Q E hr h => ?_)
  · obtain ⟨c,k,rfl,_⟩ := h
    rfl
  · obtain ⟨c,k,rfl,q⟩ := h
    refine ⟨_,(pss_cons (ps_set (i := 2) S_law_mixed.nd rfl (Or.inl rfl) (pe_op op_mod (pe_op op_mulX (pe_op op_add (pe_op op_add (pe_op op_mod (pv 0) pe_int) (pe_op op_mulX pe_int (pv 1))) pe_int) pe_int) pe_int)) (pss_cons (ps_set (i := 2) S_law_mixed.nd rfl (Or.inl rfl) (pe_op op_mod (pe_op op_add (pe_op op_mod (pe_op op_mulX (pv 2) (pv 2)) pe_int) (pe_op op_mulX pe_int (pv 1))) pe_int)) (pss_one (ps_ret (pe_op op_mod (pe_op op_mulX (pv 2) pe_int) pe_int))))),?_⟩
    refine ⟨_,rfl,c,_,rfl,rfl,(by show (0 : Int) < 2147483629; decide),_,rfl,_,_,rfl,rfl,CM.l ⟨by decide,by decide⟩,_,_,rfl,rfl,_,_,rfl,rfl,_,_,rfl,rfl,CM.r ⟨by decide,by decide⟩,_,_,rfl,rfl,(by show (0 : Int) < 2147483647; decide),?_⟩
    refine ⟨_,rfl,_,rfl,_,_,rfl,rfl,CM.l (lt64 (Int.emod_nonneg _ (by decide)) (Int.emod_lt_of_pos _ (by decide))),_,_,rfl,rfl,(by show (0 : Int) < 2147483629; decide),_,rfl,_,_,rfl,rfl,CM.l ⟨by decide,by decide⟩,_,_,rfl,rfl,_,_,rfl,rfl,(by show (0 : Int) < 2147483629; decide),?_⟩
    exact ⟨_,rfl,_,_,rfl,rfl,CM.r ⟨by decide,by decide⟩,_,_,rfl,rfl,(by show (0 : Int) < 2147483647; decide),q _⟩
theorem S_law_numbers : FnScope ["cell","many","base","found","left","k","number","turns"] ["cell","many","base"] (defScope (top 29)) := ⟨rfl,rfl,rfl,by decide +kernel,rfl,by decide +kernel,by decide +kernel⟩
theorem fn_law_numbers (D_law_numbers : Df K mg "_law_numbers" (top 29)) (F_law_mixed : Fn P w K mg base "_law_mixed" ["cell","k"] 1 spMixed) (T : Txt mg) : Fn P w K mg base "_law_numbers" ["cell","many","base"] 2 spNumbers := by
  refine D_law_numbers.fn S_law_numbers (fun _ _ _ _ _ _ us hl => match us,hl with | [_,_,_],_ => rfl) (fun vs H Q E h => ?_) (fun f cdv A outer s H vs Q E hr h => ?_)
  · obtain ⟨c,m,b,rfl,_⟩ := h
    rfl
  · obtain ⟨c,m,b,rfl,hm,⟨hb,bb⟩,q⟩ := h
    refine ⟨_,(pss_cons (ps_set (i := 3) S_law_numbers.nd rfl (Or.inl rfl) (pe_lst pa_nil)) (pss_cons (ps_set (i := 4) S_law_numbers.nd rfl (Or.inl rfl) (pe_op op_sub (pv 0) (pe_op op_pow pe_int pe_int))) (pss_cons (ps_for PassesOwn.never rfl (pi_range1 rfl T.z_range (pa_cons (pv 1) pa_nil)) (pg_name (i := 5) S_law_numbers.nd rfl (Or.inl rfl)) (pss_cons (ps_set (i := 6) S_law_numbers.nd rfl (Or.inl rfl) (pv 4)) (pss_cons (ps_if (pt_cmpR op_gt (pv 4) pe_int (nomark _)) (pss_one (ps_set (i := 4) S_law_numbers.nd rfl (Or.inl rfl) (pe_op op_fdivP (pv 4) (pv 2)))) (pss_cons (ps_set (i := 6) S_law_numbers.nd rfl (Or.inl rfl) pe_int) (pss_cons (ps_set (i := 7) S_law_numbers.nd rfl (Or.inl rfl) pe_int) (pss_one (ps_while PassesOwn.never (pt_cmpR op_lt (pe_op op_mulX (pv 7) pe_int) (pe_op op_add (pe_bm0 PySem.F.plainAttrs_int PySem.F.slot_int_bit_length PySem.F.type_int_bit_length mt_bitlen (pv 2)) pe_int) (nomark _)) (pss_cons (ps_set (i := 6) S_law_numbers.nd rfl (Or.inl rfl) (pe_op op_add (pe_op op_mulX (pv 6) pe_int) (pe_fn F_law_mixed (hr.mono (by decide)) (by rfl) (pa_cons (pv 0) (pa_cons (pe_op op_add (pe_op op_mulX pe_int (pv 5)) (pv 7)) pa_nil))))) (pss_one (ps_set (i := 7) S_law_numbers.nd rfl (Or.inl rfl) (pe_op op_add (pv 7) pe_int))))))))) (pss_one (ps_expr (pe_bm PySem.F.plainAttrs_list PySem.F.slot_list_append PySem.F.type_list_append mt_append (pv 3) (pa_cons (pe_op op_mod (pv 6) (pv 2)) pa_nil))))))) (pss_one (ps_ret (pv 3)))))),?_⟩
    refine ⟨by decide,fun l hl => ?_⟩
    refine ⟨_,rfl,_,_,rfl,rfl,⟨by decide,by decide,by decide⟩,_,_,rfl,rfl,?_⟩
    refine ⟨_,rfl,_,rfl,by omega,by omega,?_⟩
    rw [Int.toNat_natCast]
    refine for_range (fun i σ H' => ∃ (ns : List Int) (left : Int) (x5 x6 x7 : Option V),σ = [some (.int c),some (.int (m : Int)),some (.int b),some (.ref l),some (.int left),x5,x6,x7] ∧ Same H H' ∧ H' l = some (.lst (ns.map V.int)) ∧ ns.length = i ∧ ∀ n ∈ ns,0 ≤ n ∧ n < b)
      ⟨[],_,_,_,_,rfl,Same.new hl,upd_same,rfl,fun n h => nomatch h⟩ ?_ ?_
    · rintro i σ H' hi ⟨ns,left,x5,x6,x7,rfl,sm,hl',hlen,hns⟩
      refine ⟨_,rfl,?_⟩
      refine ⟨_,rfl,_,_,rfl,rfl,_,rfl,?_⟩
      have tail : ∀ (n left' : Int) (x7' : Option V),(tDrop (tBM K "list" rAppend (tVar 3) (tCons (tOp (rI (fun _ j => 0 < j) fun i j => .int (i % j)) (tVar 6) (tVar 2)) tNil))) { nx := fun σ H' => ∃ (ns : List Int) (left : Int) (x5 x6 x7 : Option V),σ = [some (.int c),some (.int (m : Int)),some (.int b),some (.ref l),some (.int left),x5,x6,x7] ∧ Same H H' ∧ H' l = some (.lst (ns.map V.int)) ∧ ns.length = i + 1 ∧ ∀ n ∈ ns,0 ≤ n ∧ n < b,rt := Q } [some (.int c),some (.int (m : Int)),some (.int b),some (.ref l),some (.int left'),some (.int (0 + (i : Int))),some (.int n),x7'] H' := by
        intro n left' x7'
        refine ⟨_,rfl,.inl ⟨rfl,_,SqL.of hl'⟩,_,rfl,_,rfl,n,b,rfl,rfl,hb,l,_,_,rfl,rfl,hl',?_,?_⟩
        · rw [List.length_map]
          exact small1000 (by omega)
        · refine ⟨ns ++ [n % b],left',_,_,_,rfl,?_,?_,?_,?_⟩
          · intro a o ea
            rw [upd_ne (ne_of_none ea hl)]
            exact sm a o ea
          · rw [upd_same,List.map_append]
            rfl
          · rw [List.length_append,hlen]
            rfl
          · intro y hy
            rcases List.mem_append.mp hy with hy | hy
            · exact hns y hy
            · rw [List.mem_singleton.mp hy]
              exact ⟨Int.emod_nonneg _ (by omega),Int.emod_lt_of_pos _ hb⟩
      refine ite3 (fun hc => ?_) (fun hc => ?_)
      · refine ⟨_,rfl,_,rfl,_,_,rfl,rfl,⟨hb,bits_le bb (by decide)⟩,?_⟩
        exact tail left (left / b) x7
      · refine while_by (fun σ H2 => ∃ (n t : Int),σ = [some (.int c),some (.int (m : Int)),some (.int b),some (.ref l),some (.int left),some (.int (0 + (i : Int))),some (.int n),some (.int t)] ∧ H2 = H' ∧ 0 ≤ t)
          (fun σ _ => match σ with | [_,_,_,_,_,_,_,some (.int t)] => (((bits b : Nat) : Int) + 8 - t).toNat | _ => 0) ⟨_,_,rfl,rfl,Int.le_refl 0⟩ ?_ ?_
        · rintro σ H2 ⟨n,t,rfl,rfl,ht⟩
          refine ⟨_,rfl,_,_,rfl,rfl,CM.r ⟨by decide,by decide⟩,_,rfl,rfl,b,rfl,rfl,_,_,rfl,rfl,_,_,rfl,rfl,_,rfl,?_⟩
          refine ite3 (fun hd => ?_) (fun hd => ?_)
          · have hd' : t * 30 < ((bits b : Nat) : Int) + 8 := by simpa using hd
            refine ⟨_,rfl,_,_,rfl,rfl,CM.r ⟨by decide,by decide⟩,_,rfl,_,rfl,_,_,rfl,rfl,CM.l ⟨by decide,by decide⟩,_,rfl,_,_,rfl,rfl,c,_,rfl,fun z => ⟨_,_,rfl,rfl,?_⟩⟩
            refine ⟨_,rfl,_,_,rfl,rfl,⟨_,t + 1,rfl,rfl,by omega⟩,?_⟩
            show (((bits b : Nat) : Int) + 8 - (t + 1)).toNat < (((bits b : Nat) : Int) + 8 - t).toNat
            omega
          · exact tail n left _
        · rintro σ H2 Q1 Q2 hq h
          obtain ⟨v,e,i1,j1,e1,e2,cm,v2,e3,ty,i2,e4,e5,i3,j3,e6,e7,i4,j4,e8,e9,k,ek,r⟩ := h
          exact ⟨v,e,i1,j1,e1,e2,cm,v2,e3,ty,i2,e4,e5,i3,j3,e6,e7,i4,j4,e8,e9,k,ek,hq _ _ r⟩
    · rintro σ H' ⟨ns,left,x5,x6,x7,rfl,sm,hl',hlen,hns⟩
      refine ⟨_,rfl,?_⟩
      exact q l ns H' hlen hns sm hl'
def lcE : Nat → Expr → List Scope
  | 0,_ => []
  | n + 1,e => match e with
    | .ListComp _ _ sc _ => [sc]
    | .Call f as _ _ => lcE n f ++ as.flatMap (lcE n)
    | .BoolOp _ vs _ => vs.flatMap (lcE n)
    | .UnaryOp _ a _ => lcE n a
    | .Compare a _ bs _ => lcE n a ++ bs.flatMap (lcE n)
    | _ => []
def lcS : Nat → Stmt → List Scope
  | 0,_ => []
  | n + 1,s => match s with
    | .Return (some e) _ => lcE 6 e
    | .Assign _ e _ => lcE 6 e
    | .Expr e _ => lcE 6 e
    | .If c b e _ => lcE 6 c ++ (b.flatMap (lcS n) ++ e.flatMap (lcS n))
    | .For _ _ b _ _ => b.flatMap (lcS n)
    | _ => []
def lcA (s : Stmt) (i : Nat) : Scope := ((defBody s).flatMap (lcS 4)).getD i { kind := .function,names := [],isGenerator := false,isCoroutine := false }
theorem call_lenK {X : Cx} {K : PySem.W.Frag} (h : X.K = K) : CallR X (.builtin "len") (rLenS K) := h ▸ call_len_seq
theorem pe_sliceRK {X : Cx} {e : Expr} {te : TE} {st : Expr} {ts : TO} {pos p2 : Pos} {K : PySem.W.Frag} (h : X.K = K) (he : PE X e te) (hs : PO X (some st) ts) : PE X (.Subscript e (.Slice none none (some st) p2) pos) (tRevS K te ts) := h ▸ pe_sliceR he hs
abbrev Cs := List (Int × Int)
abbrev Bk := List (Str × Cs)
def But (N : List Addr) (H H' : Hp) : Prop := ∀ a o,a ∉ N → H a = some o → H' a = some o
theorem But.of {N : List Addr} {H H' : Hp} (s : Same H H') : But N H H' := fun a o _ e => s a o e
theorem But.trans {N : List Addr} {H H' H2 : Hp} (a : But N H H') (b : But N H' H2) : But N H H2 := fun x o n e => b x o n (a x o n e)
theorem But.wide {N M : List Addr} {H H' : Hp} (b : But N H H') (h : ∀ a ∈ N,a ∈ M) : But M H H' := fun x o n e => b x o (fun z => n (h x z)) e
theorem But.upd {N : List Addr} {H H' : Hp} {l : Addr} {xs ys : List V} (u : Upd H H' l xs ys) (h : l ∈ N) : But N H H' := fun a o n e => by
  rw [u.oth a (fun z => n (z ▸ h))]
  exact e
theorem But.put {N : List Addr} {H : Hp} {l : Addr} {o : HO} (h : l ∈ N) : But N H (L2.upd H l o) := fun a o' n e => by
  rw [upd_ne (b := a) (a := l) (fun z => n (by rw [z]; exact h))]
  exact e
def Live (M : List Addr) (H : Hp) : Prop := ∀ a ∈ M,H a ≠ none ∧ ∀ xs,H a ≠ some (.tup xs)
theorem Live.out {M : List Addr} {H : Hp} {a : Addr} (L : Live M H) (h : H a = none) : a ∉ M := fun m => (L a m).1 h
theorem Live.tup {M : List Addr} {H : Hp} {a : Addr} {xs : List V} (L : Live M H) (h : H a = some (.tup xs)) : a ∉ M := fun m => (L a m).2 xs h
theorem Live.go {M N : List Addr} {H H' : Hp} (L : Live M H) (b : But N H H') (hN : ∀ a ∈ N,H' a ≠ none ∧ ∀ xs,H' a ≠ some (.tup xs)) : Live M H' := fun a m => by
  by_cases h : a ∈ N
  · exact hN a h
  · cases e : H a with
    | none => exact absurd e (L a m).1
    | some o =>
      have := L a m
      rw [e] at this
      rw [b a o h e]
      exact this
theorem Live.mono {M : List Addr} {H H' : Hp} (L : Live M H) (s : Same H H') : Live M H' := L.go (N := []) (.of s) (by simp)
structure Ln (M : List Addr) (H : Hp) (p : Addr) (cs : Cs) : Prop where
  ex : ∃ qs : Crn,qs.map (·.2) = cs ∧ p ∉ M ∧ H p = some (.lst (qs.map fun q => V.ref q.1)) ∧ ∀ q ∈ qs,q.1 ∉ M ∧ H q.1 = some (.tup [.int q.2.1,.int q.2.2])
theorem out_of {M M' : List Addr} {H : Hp} {a : Addr} {o : HO} (hM : ∀ x ∈ M',x ∈ M ∨ H x = none) (n : a ∉ M) (e : H a = some o) : a ∉ M' := fun m => by
  rcases hM a m with h | h
  · exact n h
  · rw [e] at h; cases h
theorem Ln.re {M M' : List Addr} {H : Hp} {p : Addr} {cs : Cs} (L : Ln M H p cs) (hM : ∀ a ∈ M',a ∈ M ∨ H a = none) : Ln M' H p cs := by
  obtain ⟨qs,h1,h2,h3,h4⟩ := L.ex
  exact ⟨qs,h1,out_of hM h2 h3,h3,fun q hq => ⟨out_of hM (h4 q hq).1 (h4 q hq).2,(h4 q hq).2⟩⟩
theorem Ln.go {M N : List Addr} {H H' : Hp} {p : Addr} {cs : Cs} (L : Ln M H p cs) (b : But N H H') (hN : ∀ a ∈ N,a ∈ M ∨ H a = none) : Ln M H' p cs := by
  obtain ⟨qs,h1,h2,h3,h4⟩ := L.ex
  exact ⟨qs,h1,h2,b _ _ (out_of hN h2 h3) h3,fun q hq => ⟨(h4 q hq).1,b _ _ (out_of hN (h4 q hq).1 (h4 q hq).2) (h4 q hq).2⟩⟩
def En (M : List Addr) (H : Hp) (r : Addr × Str × Cs) : Prop := r.1 ∉ M ∧ ∃ l,H r.1 = some (.tup [.str r.2.1,.ref l]) ∧ Ln M H l r.2.2
theorem En.re {M M' : List Addr} {H : Hp} {r : Addr × Str × Cs} (L : En M H r) (hM : ∀ a ∈ M',a ∈ M ∨ H a = none) : En M' H r := by
  obtain ⟨h1,l,h2,h3⟩ := L
  exact ⟨out_of hM h1 h2,l,h2,h3.re hM⟩
theorem En.go {M N : List Addr} {H H' : Hp} {r : Addr × Str × Cs} (L : En M H r) (b : But N H H') (hN : ∀ a ∈ N,a ∈ M ∨ H a = none) : En M H' r := by
  obtain ⟨h1,l,h2,h3⟩ := L
  exact ⟨h1,l,b _ _ (out_of hN h1 h2) h2,h3.go b hN⟩
structure Bo (M : List Addr) (H : Hp) (k : Addr) (es : Bk) : Prop where
  ex : ∃ rs : List (Addr × Str × Cs),rs.map (·.2) = es ∧ k ∉ M ∧ H k = some (.lst (rs.map fun r => V.ref r.1)) ∧ ∀ r ∈ rs,En M H r
theorem Bo.re {M M' : List Addr} {H : Hp} {k : Addr} {es : Bk} (L : Bo M H k es) (hM : ∀ a ∈ M',a ∈ M ∨ H a = none) : Bo M' H k es := by
  obtain ⟨rs,h1,h2,h3,h4⟩ := L.ex
  exact ⟨rs,h1,out_of hM h2 h3,h3,fun r hr => (h4 r hr).re hM⟩
theorem Bo.go {M N : List Addr} {H H' : Hp} {k : Addr} {es : Bk} (L : Bo M H k es) (b : But N H H') (hN : ∀ a ∈ N,a ∈ M ∨ H a = none) : Bo M H' k es := by
  obtain ⟨rs,h1,h2,h3,h4⟩ := L.ex
  exact ⟨rs,h1,h2,b _ _ (out_of hN h2 h3) h3,fun r hr => (h4 r hr).go b hN⟩
theorem Bo.mono {M : List Addr} {H H' : Hp} {k : Addr} {es : Bk} (L : Bo M H k es) (s : Same H H') : Bo M H' k es := L.go (N := []) (.of s) (by simp)
structure Pa (M : List Addr) (H : Hp) (e : Addr) (ps : List Bk) : Prop where
  ex : ∃ ks : List (Addr × Bk),ks.map (·.2) = ps ∧ H e = some (.lst (ks.map fun r => V.ref r.1)) ∧ ∀ r ∈ ks,Bo M H r.1 r.2
theorem Pa.re {M M' : List Addr} {H : Hp} {e : Addr} {ps : List Bk} (L : Pa M H e ps) (hM : ∀ a ∈ M',a ∈ M ∨ H a = none) : Pa M' H e ps := by
  obtain ⟨ks,h1,h2,h3⟩ := L.ex
  exact ⟨ks,h1,h2,fun r hr => (h3 r hr).re hM⟩
theorem Pa.go {M N : List Addr} {H H' : Hp} {e : Addr} {ps : List Bk} (L : Pa M H e ps) (b : But N H H') (hN : ∀ a ∈ N,a ∈ M ∨ H a = none) (he : e ∉ N) : Pa M H' e ps := by
  obtain ⟨ks,h1,h2,h3⟩ := L.ex
  exact ⟨ks,h1,b _ _ he h2,fun r hr => (h3 r hr).go b hN⟩
def fsB (k e : Addr) : List (Str × V) := [("kept",.ref k),("earlier",.ref e)]
structure BookR (M : List Addr) (C : Addr) (H : Hp) (b e : Addr) (kept : Bk) (past : List Bk) : Prop where
  ex : ∃ dx k,H b = some (.ins C dx (fsB k e)) ∧ Bo M H k kept ∧ Pa M H e past
theorem BookR.re {M M' : List Addr} {C : Addr} {H : Hp} {b e : Addr} {kept : Bk} {past : List Bk} (L : BookR M C H b e kept past) (hM : ∀ a ∈ M',a ∈ M ∨ H a = none) : BookR M' C H b e kept past := by
  obtain ⟨dx,k,h1,h2,h3⟩ := L.ex
  exact ⟨dx,k,h1,h2.re hM,h3.re hM⟩
theorem BookR.go {M N : List Addr} {C : Addr} {H H' : Hp} {b e : Addr} {kept : Bk} {past : List Bk} (L : BookR M C H b e kept past) (bt : But N H H') (hN : ∀ a ∈ N,a ∈ M ∨ H a = none) (hb : b ∉ N) (he : e ∉ N) : BookR M C H' b e kept past := by
  obtain ⟨dx,k,h1,h2,h3⟩ := L.ex
  exact ⟨dx,k,bt _ _ hb h1,h2.go bt hN,h3.go bt hN he⟩
theorem BookR.mono {M : List Addr} {C : Addr} {H H' : Hp} {b e : Addr} {kept : Bk} {past : List Bk} (L : BookR M C H b e kept past) (s : Same H H') : BookR M C H' b e kept past := L.go (N := []) (.of s) (by simp) (by simp) (by simp)
theorem BookR.ne {M : List Addr} {C : Addr} {H : Hp} {b e : Addr} {kept : Bk} {past : List Bk} (L : BookR M C H b e kept past) : b ≠ e := fun z => by
  obtain ⟨dx,k,h1,h2,h3⟩ := L.ex
  obtain ⟨ks,_,h4,_⟩ := h3.ex
  rw [z,h4] at h1
  cases h1
def ABC : Str := Str.ofString "abcdefghijklmnopqrstuvwxyz"
def nameB (n : Str) : Bool := (decide ((1 : Int) ≤ (n.length : Int)) && decide ((n.length : Int) ≤ 8)) && (!decide (V.str n = V.str (Str.ofString "none")) && n.cps.toList.all (fun c => Txt.contains ABC ⟨#[c]⟩))
def nmV : V → Bool
  | .str n => nameB n
  | _ => false
structure Nm (H : Hp) (x : V) : Prop where
  kn : ∃ t,Kn H x t
  rp : ∃ d,Rp H 3 x d
  sz : ∀ z,x = .str z → z.length ≤ 100
theorem Nm.mono {H H' : Hp} {x : V} (n : Nm H x) (s : Same H H') : Nm H' x := ⟨let ⟨t,k⟩ := n.kn; ⟨t,k.mono s⟩,let ⟨d,r⟩ := n.rp; ⟨d,r.mono s⟩,n.sz⟩
theorem Nm.str {H : Hp} {x : V} (n : Nm H x) (h : nmV x = true) : ∃ z,x = .str z ∧ nameB z = true := by
  cases x <;> first | exact ⟨_,rfl,h⟩ | cases h
def strk (k : Bk) (n : Str) : Bk := k.filter fun r => !decide (V.str r.1 = V.str n)
def trn (k : Bk) (n : Str) : Bk := k.map fun r => if r.1 = n then (r.1,r.2.reverse) else r
def fnd (k : Bk) (n : Str) : Option Cs := (k.find? fun r => decide (V.str r.1 = V.str n)).map (·.2)
structure Good (k : Bk) : Prop where
  len : k.length ≤ 6
  nd : (k.map (·.1)).Nodup
  nm : ∀ r ∈ k,nameB r.1 = true
  ln : ∀ r ∈ k,r.2.length ≤ 10
def deed (way : Nat) (x : V) (lo : Option Cs) (kept : Bk) (past : List Bk) : Nat × Bk × List Bk :=
  if way = 5 then (match past.getLast? with
    | none => (5,kept,past)
    | some p => (0,p,past.dropLast))
  else match x with
    | .str n => if nameB n = false then (1,kept,past) else
      if way < 3 then (if n ∈ kept.map (·.1) then (2,kept,past) else match lo with
        | none => (3,kept,past)
        | some cs => if 6 ≤ kept.length then (4,kept,past) else (0,kept ++ [(n,cs)],past ++ [kept]))
      else (match fnd kept n with
        | none => (1,kept,past)
        | some _ => (0,if way = 3 then strk kept n else trn kept n,past ++ [kept]))
    | _ => (1,kept,past)
theorem rows_of {β : Type} {G : Addr × β → Prop} : ∀ {es : List β} {ys : List V},ys.length = es.length → (∀ (i : Nat) y e,ys[i]? = some y → es[i]? = some e → ∃ a,y = .ref a ∧ G (a,e)) → ∃ rs : List (Addr × β),rs.map (·.2) = es ∧ ys = rs.map (fun r => V.ref r.1) ∧ ∀ r ∈ rs,G r
  | [],[],_,_ => ⟨[],rfl,rfl,fun _ h => nomatch h⟩
  | [],_ :: _,h,_ => by cases h
  | _ :: _,[],h,_ => by cases h
  | e :: es,y :: ys,h,q => by
    obtain ⟨a,rfl,g⟩ := q 0 y e rfl rfl
    obtain ⟨rs,h1,h2,h3⟩ := rows_of (G := G) (es := es) (ys := ys) (by simpa using h) (fun i y' e' hy he => q (i + 1) y' e' hy he)
    refine ⟨(a,e) :: rs,by rw [List.map_cons,h1],by rw [List.map_cons,h2],fun r hr => ?_⟩
    rcases List.mem_cons.mp hr with z | z
    · rw [z]; exact g
    · exact h3 r z
theorem comp_lstP {K : PySem.W.Frag} {a : Addr} {xs : List V} {fv : List (Str × Nat)} {g : TG} {tc : TT} {te : TE} {σ : St} {H1 : Hp} {Q : VK} {k : Nat} (hD : H1 a = some (.lst xs)) (hlen : xs.length < 1000) (sel : V → Bool) (val : V → V)
    (hs : ∀ x H2 (τ : St) (Kc : VK) (Kn : Hp → Prop),x ∈ xs → Same H1 H2 → τ.length = k → (sel x = true → ∀ H4,Same H2 H4 → Kc (val x) H4) → (sel x = false → ∀ H4,Same H2 H4 → Kn H4) →
      g x (τ ++ fvs fv σ) H2 fun σ2 H4 => (∃ τ' : St,τ'.length = k ∧ σ2 = τ' ++ fvs fv σ) ∧ tc σ2 H4 fun b H5 => if b = true then te σ2 H5 Kc else Kn H5)
    (hd : ∀ l H',H1 l = none → Same H1 H' → H' l = some (.lst ((xs.filter sel).map val)) → Q (.ref l) H') : CompAtG (Itl K a) k fv g tc te σ H1 Q := by
  intro l hl
  refine ⟨fun i m acc H2 => m = xs.length - i ∧ i ≤ xs.length ∧ acc.length ≤ i ∧ Same H1 H2 ∧ H2 l = some (.lst acc) ∧ acc = ((xs.take i).filter sel).map val,⟨_,rfl,Nat.zero_le _,Nat.le_refl _,Same.new hl,upd_same,rfl⟩,?_⟩
  rintro i m acc H2 ⟨rfl,hi,e1,sm,e3,hr⟩
  refine ⟨e3,small1000 (by omega),?_⟩
  by_cases hlt : i < xs.length
  · refine .inr ⟨⟨xs,xs[i],SqL.of (sm _ _ hD),List.getElem?_eq_getElem hlt⟩,fun x H3 y τ hτ => ?_⟩
    obtain ⟨rfl,e⟩ := y
    have hx := e xs (SqL.of (sm _ _ hD))
    have tk : xs.take (i + 1) = xs.take i ++ [x] := by rw [List.take_add_one,hx]; rfl
    refine hs x H3 τ _ _ (List.mem_of_getElem? hx) sm hτ (fun hsel H4 s4 => ⟨s4 _ _ e3,xs.length - (i + 1),by omega,rfl,hlt,by simp; exact e1,(sm.trans s4).upd hl,upd_same,?_⟩) fun hsel H4 s4 => ⟨xs.length - (i + 1),by omega,rfl,hlt,by omega,sm.trans s4,s4 _ _ e3,?_⟩
    · rw [tk,List.filter_append,List.map_append,← hr,List.filter_cons,hsel]
      rfl
    · rw [tk,List.filter_append,List.map_append,← hr,List.filter_cons,hsel]
      simp
  · have e : i = xs.length := by omega
    subst e
    rw [List.take_length] at hr
    exact .inl ⟨⟨xs,SqL.of (sm _ _ hD),Nat.le_refl _⟩,hd l H2 hl sm (by rw [← hr]; exact e3)⟩
inductive spIsName (vs : List V) (H : Hp) (Q : VK) (x_3 : XK) : Prop
  | mk : ∀ x,(vs = [x]) → (Nm H x) → (∀ H',Same H H' → Q (.bl (nmV x)) H') → spIsName vs H Q x_3
inductive spInit (C : Addr) (vs : List V) (H : Hp) (Q : VK) (x_3 : XK) : Prop
  | mk : ∀ (b dx : Addr),(vs = [.ref b]) → (H b = some (.ins C dx [])) → (∀ (k e : Addr) (H' : Hp),But [b] H H' → H' b = some (.ins C dx (fsB k e)) → H k = none → H e = none → k ≠ e → H' k = some (.lst []) → H' e = some (.lst []) → Q .non H') → spInit C vs H Q x_3
inductive spTo (C : Addr) (vs : List V) (H : Hp) (Q : VK) (x_3 : XK) : Prop
  | mk : ∀ (b k' dx k e : Addr) (ks : List V),(vs = [.ref b,.ref k']) → (H b = some (.ins C dx (fsB k e))) → (H e = some (.lst ks)) → (ks.length ≤ 1000) → (∀ H',But [b,e] H H' → H' b = some (.ins C dx (fsB k' e)) → H' e = some (.lst (ks ++ [.ref k])) → Q .non H') → spTo C vs H Q x_3
inductive spNames (C : Addr) (vs : List V) (H : Hp) (Q : VK) (x_3 : XK) : Prop
  | mk : ∀ (b : Addr) (M : List Addr) (e : Addr) (kept : Bk) (past : List Bk),(vs = [.ref b]) → (BookR M C H b e kept past) → (kept.length ≤ 100) → (∀ (l : Addr) (H' : Hp),Same H H' → H l = none → H' l = some (.lst (kept.map fun r => V.str r.1)) → Q (.ref l) H') → spNames C vs H Q x_3
def atN (x : V) (kept : Bk) : Option Cs := match x with
  | .str n => if nameB n = false then none else fnd kept n
  | _ => none
inductive spLineB (C N : Addr) (vs : List V) (H : Hp) (Q : VK) (E : XK) : Prop
  | mk : ∀ (b : Addr) (x : V) (M : List Addr) (e : Addr) (kept : Bk) (past : List Bk),(vs = [.ref b,x]) → (BookR M C H b e kept past) → (Nm H x) → (kept.length ≤ 100) → ((∀ r ∈ kept,r.2.length ≤ 10)) → ((∀ cs,atN x kept = some cs → ∀ (l : Addr) (qs : Crn) (H' : Hp),Same H H' → H l = none → qs.map (·.2) = cs → H' l = some (.lst (qs.map fun q => V.ref q.1)) → (∀ q ∈ qs,q.1 ∉ M ∧ H' q.1 = some (.tup [.int q.2.1,.int q.2.2])) → Q (.ref l) H')) → ((atN x kept = none → ∀ H',Same H H' → E (.ref N) none H')) → spLineB C N vs H Q E
def After (M : List Addr) (C : Addr) (cl : Nat → Addr) (b e : Addr) (H : Hp) (Q : VK) (E : XK) (r : Nat × Bk × List Bk) : Prop :=
  (r.1 ≠ 0 → ∀ H',Same H H' → E (.ref (cl r.1)) none H') ∧ (r.1 = 0 → ∀ H',But [b,e] H H' → BookR M C H' b e r.2.1 r.2.2 → Q .non H')
structure Open (M : List Addr) (C : Addr) (H : Hp) (b e : Addr) (kept : Bk) (past : List Bk) : Prop where
  bk : BookR M C H b e kept past
  lv : Live M H
  bM : b ∈ M
  eM : e ∈ M
  gd : Good kept
  pl : past.length ≤ 100
theorem Open.mono {M : List Addr} {C : Addr} {H H' : Hp} {b e : Addr} {kept : Bk} {past : List Bk} (o : Open M C H b e kept past) (s : Same H H') : Open M C H' b e kept past := ⟨o.bk.mono s,o.lv.mono s,o.bM,o.eM,o.gd,o.pl⟩
inductive spDeed (C : Addr) (cl : Nat → Addr) (way : Nat) (vs : List V) (H : Hp) (Q : VK) (E : XK) : Prop
  | mk : ∀ (b : Addr) (x : V) (M : List Addr) (e : Addr) (kept : Bk) (past : List Bk),(vs = [.ref b,x]) → (Open M C H b e kept past) → (Nm H x) → (After M C cl b e H Q E (deed way x none kept past)) → spDeed C cl way vs H Q E
inductive spBack (C : Addr) (cl : Nat → Addr) (vs : List V) (H : Hp) (Q : VK) (E : XK) : Prop
  | mk : ∀ (b : Addr) (M : List Addr) (e : Addr) (kept : Bk) (past : List Bk),(vs = [.ref b]) → (Open M C H b e kept past) → (After M C cl b e H Q E (deed 5 .non none kept past)) → spBack C cl vs H Q E
def LnO (H : Hp) (y : V) : Option Cs → Prop
  | none => LTh H y ∧ lineV H y = false
  | some cs => ∃ p qs,y = .ref p ∧ LineS H p qs ∧ qs.map (·.2) = cs
theorem LnO.mono {H H' : Hp} {y : V} {lo : Option Cs} (h : LnO H y lo) (s : Same H H') : LnO H' y lo := by
  cases lo with
  | none => exact ⟨h.1.mono s,by rw [lineV_same h.1 s]; exact h.2⟩
  | some cs => obtain ⟨p,qs,h1,h2,h3⟩ := h; exact ⟨p,qs,h1,h2.mono s,h3⟩
inductive spPut (C : Addr) (cl : Nat → Addr) (vs : List V) (H : Hp) (Q : VK) (E : XK) : Prop
  | mk : ∀ (b : Addr) (x y : V) (M : List Addr) (e : Addr) (kept : Bk) (past : List Bk) (lo : Option Cs),(vs = [.ref b,x,y]) → (Open M C H b e kept past) → (Nm H x) → (LnO H y lo) → (After M C cl b e H Q E (deed 0 x lo kept past)) → spPut C cl vs H Q E
theorem rows_fnd {rs : List (Addr × Str × Cs)} {es : Bk} (h : rs.map (·.2) = es) (n : Str) : fnd es n = (rs.find? fun r => decide (V.str r.2.1 = V.str n)).map (·.2.2) := by
  subst h
  unfold fnd
  induction rs with
  | nil => rfl
  | cons r rs ih =>
    rw [List.map_cons,List.find?_cons,List.find?_cons]
    cases decide (V.str r.2.1 = V.str n) with
    | true => rfl
    | false => exact ih
theorem S_is_name : FnScope ["thing"] ["thing"] (defScope (top 25)) := ⟨rfl,rfl,rfl,by decide +kernel,rfl,by decide +kernel,by decide +kernel⟩
theorem fn_is_name (D_is_name : Df K mg "is_name" (top 25)) (V_LETTERS : ∃ tk,mg "LETTERS" = some (.str (Str.ofString "abcdefghijklmnopqrstuvwxyz") tk)) (V_NOTHING : ∃ tk,mg "NOTHING" = some (.str (Str.ofString "none") tk)) (V_MOST : ∃ tk,mg "MOST_LETTERS" = some (.int 8 tk)) (T : Txt mg) : Fn P w K mg base "is_name" ["thing"] 1 spIsName := by
  refine D_is_name.fn S_is_name (fun _ _ _ _ _ _ us hl => match us,hl with | [_],_ => rfl) (fun vs H Q E h => ?_) (fun f cdv A outer s H vs Q E hr h => ?_)
  · obtain ⟨x,rfl,_⟩ := h
    rfl
  · obtain ⟨x,rfl,nm,q⟩ := h
    have CN : CompN (cxOf CX0 P w K mg base ["thing"] "is_name" (defScope (top 25)) f cdv A outer s H E).nox (lcA (top 25) 0) [] "letter" [] :=
      ⟨by rfl,rfl,by decide +kernel,by decide +kernel,rfl,(fun p hp => nomatch hp),by rfl,by decide +kernel,(fun p hp => nomatch hp),⟨rfl,rfl⟩,rfl⟩
    obtain ⟨tL,G_LETTERS⟩ := V_LETTERS
    obtain ⟨tN,G_NOTHING⟩ := V_NOTHING
    obtain ⟨tM,G_MOST_LETTERS⟩ := V_MOST
    obtain ⟨t,k⟩ := nm.kn
    refine ⟨_,(pss_cons (ps_if (pw_or (pt_not (pt_val (pe_callB call_isinst (by rfl) T.z_isinstance bt_isinstance (pa_cons (pv 0) (pa_cons (pe_ty T.z_str bt_str) pa_nil))))) (pw_or (pt_not (pt_chain op_le op_le pe_int (pe_callB call_len_str (by rfl) T.z_len bt_len (pa_cons (pv 0) pa_nil)) (pe_glob (v := .int 8) (by rfl) G_MOST_LETTERS ⟨_,rfl⟩))) (pw_or1 (pt_cmpR op_eq (pv 0) (pe_glob (v := .str (Str.ofString "none")) (by rfl) G_NOTHING ⟨_,rfl⟩) (nomark _))))).pt (pss_one (ps_ret pe_bl)) pss_nil) (pss_one (ps_ret (pe_callB (call_all rfl) (by rfl) T.z_all bt_all (pa_cons (pe_compA rfl CN (pi_str (pv 0)) (fun fp s₀ H₀ => (pe_cmpR op_inS (pv 0) (pe_glob (v := .str (Str.ofString "abcdefghijklmnopqrstuvwxyz")) (by rfl) G_LETTERS ⟨_,rfl⟩) (by rfl)))) pa_nil))))),?_⟩
    refine ⟨_,rfl,x,t,"str",rfl,k,.inr (.inr (.inr (.inr rfl))),_,rfl,?_⟩
    cases k with
    | str z =>
      have hz := nm.sz z rfl
      refine iteFalse (by decide) ?_
      have q' : Q (.bl (nameB z)) H := q H (Same.refl _)
      refine ⟨_,rfl,z,rfl,by rw [sizeLine_eq]; omega,_,_,rfl,rfl,_,rfl,ite3 (fun h1 => ?_) (fun h1 => ?_)⟩
      · refine ⟨_,_,rfl,rfl,_,rfl,ite3 (fun h2 => ?_) (fun h2 => ?_)⟩
        · have e : nameB z = false := by
            unfold nameB
            rw [show decide ((z.length : Int) ≤ 8) = false by simpa using h2,Bool.and_false,Bool.false_and]
          rw [e] at q'
          exact q'
        · have h2' : decide ((z.length : Int) ≤ 8) = true := by simpa using h2
          refine ⟨_,rfl,rfl,_,rfl,ite3 (fun h3 => ?_) (fun h3 => ?_)⟩
          · have e : nameB z = false := by
              unfold nameB
              rw [h3,Bool.not_true,Bool.false_and,Bool.and_false]
            rw [e] at q'
            exact q'
          · refine ⟨_,rfl,z,rfl,comp_sR (by have : z.cps.size = z.length := rfl; omega) (fun i v _ => ∀ c,z.cps.toList[i]? = some c → v = .bl (Txt.contains ABC ⟨#[c]⟩)) (fun _ _ _ _ _ h => h) (fun i c H2 Kc hc s2 kk => ?_) (fun l ys H' hl s' e' hn hy => ?_)⟩
            · exact ⟨_,rfl,_,_,rfl,rfl,kk _ _ (Same.refl _) fun c' hc' => by rw [hc] at hc'; cases hc'; rfl⟩
            · have ey : ys = (z.cps.toList.map fun c => Txt.contains ABC ⟨#[c]⟩).map V.bl := by
                refine List.ext_getElem? fun i => ?_
                rw [List.getElem?_map,List.getElem?_map]
                cases hc : z.cps.toList[i]? with
                | none =>
                  have : z.cps.toList.length ≤ i := List.getElem?_eq_none_iff.mp hc
                  rw [List.getElem?_eq_none (by rw [hn]; simpa using this)]
                  rfl
                | some c =>
                  have hi : i < ys.length := by
                    have := (List.getElem?_eq_some_iff.mp hc).1
                    rw [hn]
                    simpa using this
                  rw [List.getElem?_eq_getElem hi,hy i _ (List.getElem?_eq_getElem hi) c hc]
                  rfl
              rw [ey] at e'
              refine ⟨l,_,rfl,SqL.of e',?_⟩
              have e : nameB z = (z.cps.toList.map fun c => Txt.contains ABC ⟨#[c]⟩).all id := by
                unfold nameB
                rw [h1,h2',h3,List.all_map]
                rfl
              rw [← e]
              exact q H' s'
      · have e : nameB z = false := by
          unfold nameB
          rw [show decide ((1 : Int) ≤ (z.length : Int)) = false from h1,Bool.false_and,Bool.false_and]
        rw [e] at q'
        exact ⟨_,rfl,iteT q'⟩
    | _ => exact iteT (q H (Same.refl _))
theorem S_Book___init : FnScope ["self"] ["self"] (defScope (mtop 26 0)) := ⟨rfl,rfl,rfl,by decide +kernel,rfl,by decide +kernel,by decide +kernel⟩
theorem fn_Book___init (D_Book___init : DfM K C_Book "__init__" "Book.__init__" (mtop 26 0)) (O_Book : OwnC K mg "Book" C_Book) (n_kept : NoAttr K C_Book "kept") (n_earlier : NoAttr K C_Book "earlier") (T : Txt mg) : Mt P w K mg base C_Book "__init__" ["self"] 1 (spInit C_Book) := by
  refine D_Book___init.mt S_Book___init (fun _ _ _ _ _ _ us hl => match us,hl with | [_],_ => rfl) (fun vs H Q E h => ?_) (fun f cdv A outer s H vs Q E hr h => ?_)
  · obtain ⟨b,dx,rfl,_⟩ := h
    rfl
  · obtain ⟨b,dx,rfl,hb,q⟩ := h
    refine ⟨_,(pss_cons (ps_fld (pv 0) (pe_lstA pa_nil) rfl) (pss_one (ps_fld (pv 0) (pe_lstA pa_nil) rfl))),?_⟩
    refine ⟨sz (by simp),fun k H1 s1 f1 n1 => ⟨_,rfl,b,C_Book,dx,[],rfl,s1 _ _ hb,O_Book.cls,n_kept,by simp,?_⟩⟩
    have kb : k ≠ b := fun z => by
      rw [z,hb] at n1
      cases n1
    refine ⟨sz (by simp),fun e H2 s2 f2 n2 => ⟨_,rfl,b,C_Book,dx,[("kept",.ref k)],rfl,s2 _ _ upd_same,O_Book.cls,n_earlier,by simp,?_⟩⟩
    have eb : e ≠ b := fun z => by
      rw [z,upd_same] at n2
      cases n2
    have ek : k ≠ e := fun z => by
      rw [← z,upd_ne kb] at n2
      rw [f1] at n2
      cases n2
    have ne : H e = none := by
      cases hz : H e with
      | none => rfl
      | some o =>
        rw [upd_ne eb,s1 _ _ hz] at n2
        cases n2
    refine q k e _ (((But.of s1).trans (But.put (by simp))).trans ((But.of s2).trans (But.put (by simp)))) upd_same n1 ne ek ?_ ?_
    · rw [upd_ne kb]
      exact s2 _ _ (by rw [upd_ne kb]; exact f1)
    · rw [upd_ne eb]
      exact f2
theorem S_Book_change_to : FnScope ["self","kept"] ["self","kept"] (defScope (mtop 26 1)) := ⟨rfl,rfl,rfl,by decide +kernel,rfl,by decide +kernel,by decide +kernel⟩
theorem fn_Book_change_to (D_Book_change_to : DfM K C_Book "change_to" "Book.change_to" (mtop 26 1)) (O_Book : OwnC K mg "Book" C_Book) (n_kept : NoAttr K C_Book "kept") (n_earlier : NoAttr K C_Book "earlier") (T : Txt mg) : Mt P w K mg base C_Book "change_to" ["self","kept"] 1 (spTo C_Book) := by
  refine D_Book_change_to.mt S_Book_change_to (fun _ _ _ _ _ _ us hl => match us,hl with | [_,_],_ => rfl) (fun vs H Q E h => ?_) (fun f cdv A outer s H vs Q E hr h => ?_)
  · obtain ⟨b,k',dx,k,e,ks,rfl,_⟩ := h
    rfl
  · obtain ⟨b,k',dx,k,e,ks,rfl,hb,he,hk,q⟩ := h
    refine ⟨_,(pss_cons (ps_expr (pe_bm PySem.F.plainAttrs_list PySem.F.slot_list_append PySem.F.type_list_append mt_appendA (pe_fld (pv 0) rfl) (pa_cons (pe_fld (pv 0) rfl) pa_nil))) (pss_one (ps_fld (pv 0) (pv 1) rfl))),?_⟩
    have eb : e ≠ b := fun z => by
      rw [z,hb] at he
      cases he
    refine ⟨_,rfl,b,C_Book,dx,_,_,rfl,hb,O_Book.cls,n_earlier,rfl,.inl ⟨rfl,_,SqL.of he⟩,_,rfl,b,C_Book,dx,_,_,rfl,hb,O_Book.cls,n_kept,rfl,e,ks,_,rfl,rfl,he,by rw [sizeLine_eq]; omega,fun H1 u1 => ?_⟩
    have b1 := u1.at (fun z => eb z.symm) hb
    refine ⟨_,rfl,_,rfl,b,C_Book,dx,_,rfl,b1,O_Book.cls,n_kept,by simp [fsB],?_⟩
    exact q _ ((But.upd u1 (by simp)).trans (But.put (by simp))) upd_same (by rw [upd_ne eb]; exact u1.now)
theorem S_Book_names : FnScope ["self"] ["self"] (defScope (mtop 26 3)) := ⟨rfl,rfl,rfl,by decide +kernel,rfl,by decide +kernel,by decide +kernel⟩
theorem fn_Book_names (D_Book_names : DfM K C_Book "names" "Book.names" (mtop 26 3)) (O_Book : OwnC K mg "Book" C_Book) (n_kept : NoAttr K C_Book "kept") (n_earlier : NoAttr K C_Book "earlier") (T : Txt mg) : Mt P w K mg base C_Book "names" ["self"] 1 (spNames C_Book) := by
  refine D_Book_names.mt S_Book_names (fun _ _ _ _ _ _ us hl => match us,hl with | [_],_ => rfl) (fun vs H Q E h => ?_) (fun f cdv A outer s H vs Q E hr h => ?_)
  · obtain ⟨b,M,e,kept,past,rfl,_⟩ := h
    rfl
  · obtain ⟨b,M,e,kept,past,rfl,bk,hz,q⟩ := h
    have CN : CompN (cxOf (CXE P w) P w K mg base ["self"] "Book.names" (defScope (mtop 26 3)) f cdv A outer s H E) (lcA (mtop 26 3) 0) [] "entry" [] :=
      ⟨by rfl,rfl,by decide +kernel,by decide +kernel,rfl,(fun p hp => nomatch hp),by rfl,by decide +kernel,(fun p hp => nomatch hp),⟨rfl,rfl⟩,rfl⟩
    obtain ⟨dx,k,hb,bo,pa⟩ := bk.ex
    obtain ⟨rs,er,nk,hk,hr'⟩ := bo.ex
    have hn : rs.length = kept.length := by rw [← er,List.length_map]
    refine ⟨_,(pss_one (ps_ret (pe_compA rfl CN (pi_list (pe_fld (pv 0) rfl)) (fun fp s₀ H₀ => (pe_ix (ix_tupK (K := K) rfl) (pv 0) pe_int (fun _ _ => rfl)))))),?_⟩
    refine ⟨_,rfl,b,C_Book,dx,_,_,rfl,hb,O_Book.cls,n_kept,rfl,k,rfl,⟨_,SqL.of hk⟩,comp_R (SqL.of hk) (by rw [List.length_map]; omega) (fun i v _ => ∀ r,rs[i]? = some r → v = .str r.2.1) (fun _ _ _ _ _ h => h) (fun i x H2 Kc hx s2 kk => ?_) (fun l ys H' hl s' e' hn' hy => ?_)⟩
    · rw [List.getElem?_map] at hx
      obtain ⟨r,hr1,rfl⟩ := Option.map_eq_some_iff.mp hx
      obtain ⟨n1,ln,ht,_⟩ := hr' r (List.mem_of_getElem? hr1)
      exact ⟨_,rfl,r.1,_,_,_,rfl,rfl,SqT.of (s2 _ _ ht),rfl,kk _ _ (Same.refl _) fun r' h' => by rw [hr1] at h'; cases h'; rfl⟩
    · refine q l H' s' hl ?_
      rw [e',← er,List.map_map]
      refine congrArg (fun z => some (HO.lst z)) (List.ext_getElem? fun i => ?_)
      rw [List.getElem?_map]
      rw [List.length_map] at hn'
      cases hc : rs[i]? with
      | none =>
        rw [List.getElem?_eq_none (by rw [hn']; exact List.getElem?_eq_none_iff.mp hc)]
        rfl
      | some r =>
        have hi : i < ys.length := by rw [hn']; exact (List.getElem?_eq_some_iff.mp hc).1
        rw [List.getElem?_eq_getElem hi,hy i _ (List.getElem?_eq_getElem hi) r hc]
        rfl
theorem find_at {α : Type} {p : α → Bool} {rs : List α} {i : Nat} {r : α} (h : (rs.take i).find? p = none) (hi : rs[i]? = some r) (hp : p r = true) : rs.find? p = some r := by
  have e : rs = rs.take i ++ r :: rs.drop (i + 1) := by
    obtain ⟨a,b⟩ := List.getElem?_eq_some_iff.mp hi
    rw [← b,List.getElem_cons_drop,List.take_append_drop]
  rw [e,List.find?_append,h,List.find?_cons,hp]
  rfl
theorem find_next {α : Type} {p : α → Bool} {rs : List α} {i : Nat} {r : α} (h : (rs.take i).find? p = none) (hi : rs[i]? = some r) (hp : p r = false) : (rs.take (i + 1)).find? p = none := by
  rw [List.take_add_one,hi,List.find?_append,h]
  show (none : Option α).or ([r].find? p) = none
  rw [List.find?_cons,hp]
  rfl
theorem atN_str {x : V} {kept : Bk} {cs : Cs} (h : atN x kept = some cs) : ∃ n,x = .str n ∧ nameB n = true ∧ fnd kept n = some cs := by
  unfold atN at h
  split at h
  · rename_i n
    cases e : nameB n with
    | false => rw [e,if_pos rfl] at h; cases h
    | true => rw [e,if_neg (by decide)] at h; exact ⟨n,rfl,e,h⟩
  · cases h
theorem deed_none {way : Nat} {x : V} {lo : Option Cs} {kept : Bk} {past : List Bk} (hw : way = 3 ∨ way = 4) (h : atN x kept = none) : deed way x lo kept past = (1,kept,past) := by
  unfold deed
  rw [if_neg (by omega)]
  unfold atN at h
  split at h
  · rename_i n
    cases e : nameB n with
    | false => rw [if_pos rfl]
    | true =>
      rw [e,if_neg (by decide)] at h
      rw [if_neg (by decide),if_neg (by omega),h]
  · rfl
theorem deed_some {way : Nat} {n : Str} {lo : Option Cs} {kept : Bk} {past : List Bk} {cs : Cs} (hw : way = 3 ∨ way = 4) (h1 : nameB n = true) (h : fnd kept n = some cs) : deed way (.str n) lo kept past = (0,if way = 3 then strk kept n else trn kept n,past ++ [kept]) := by
  unfold deed
  rw [if_neg (by omega)]
  dsimp only
  rw [h1,if_neg (by decide),if_neg (by omega),h]
theorem Open.to {M : List Addr} {C : Addr} {H H1 : Hp} {b e k' : Addr} {kept kept' : Bk} {past : List Bk} (o : Open M C H b e kept past) (s : Same H H1) (bo' : Bo M H1 k' kept') :
    ∃ dx k ks,H1 b = some (.ins C dx (fsB k e)) ∧ H1 e = some (.lst ks) ∧ ks.length ≤ 1000 ∧ ∀ H',But [b,e] H1 H' → H' b = some (.ins C dx (fsB k' e)) → H' e = some (.lst (ks ++ [.ref k])) → But [b,e] H H' ∧ BookR M C H' b e kept' (past ++ [kept]) := by
  obtain ⟨dx,k,h1,h2,h3⟩ := (o.bk.mono s).ex
  obtain ⟨ks,h4,h5,h6⟩ := h3.ex
  have hl : ks.length = past.length := by rw [← h4,List.length_map]
  have hM : ∀ a ∈ [b,e],a ∈ M ∨ H1 a = none := fun a ha => by
    simp only [List.mem_cons,List.not_mem_nil,or_false] at ha
    rcases ha with rfl | rfl
    · exact .inl o.bM
    · exact .inl o.eM
  refine ⟨dx,k,_,h1,h5,by rw [List.length_map]; have := o.pl; omega,fun H' bt g1 g2 => ⟨(But.of s).trans bt,dx,k',g1,bo'.go bt hM,ks ++ [(k,kept)],by rw [List.map_append,h4]; rfl,by rw [g2,List.map_append]; rfl,fun r hr => ?_⟩⟩
  rcases List.mem_append.mp hr with hr | hr
  · exact (h6 r hr).go bt hM
  · rw [List.mem_singleton.mp hr]
    exact h2.go bt hM
inductive spChL (C : Addr) (vs : List V) (H : Hp) (Q : VK) (x_3 : XK) : Prop
  | mk : ∀ (b : Addr) (n : Str) (l : Addr) (M : List Addr) (e : Addr) (kept : Bk) (past : List Bk) (cs : Cs),(vs = [.ref b,.str n,.ref l]) → (Open M C H b e kept past) → (Ln M H l cs) → (∀ H',But [b,e] H H' → BookR M C H' b e (kept.map fun r => if r.1 = n then (n,cs) else r) (past ++ [kept]) → Q .non H') → spChL C vs H Q x_3
theorem vstr {a b : Str} : decide (V.str a = V.str b) = decide (a = b) := by simp
theorem S_Book_line : FnScope ["self","name","entry"] ["self","name"] (defScope (mtop 26 4)) := ⟨rfl,rfl,rfl,by decide +kernel,rfl,by decide +kernel,by decide +kernel⟩
theorem fn_Book_line {cl : Nat → Addr} (D_Book_line : DfM K C_Book "line" "Book.line" (mtop 26 4)) (O_Book : OwnC K mg "Book" C_Book) (n_kept : NoAttr K C_Book "kept") (n_earlier : NoAttr K C_Book "earlier") (O_NoName : ExcC K mg "NoName" (cl 1)) (F_is_name : Fn P w K mg base "is_name" ["thing"] 1 spIsName) (T : Txt mg) : Mt P w K mg base C_Book "line" ["self","name"] 2 (spLineB C_Book (cl 1)) := by
  refine D_Book_line.mt S_Book_line (fun _ _ _ _ _ _ us hl => match us,hl with | [_,_],_ => rfl) (fun vs H Q E h => ?_) (fun f cdv A outer s H vs Q E hr h => ?_)
  · obtain ⟨b,x,M,e,kept,past,rfl,_⟩ := h
    rfl
  · obtain ⟨b,x,M,e,kept,past,rfl,bk,nm,hz,hl,ok,no⟩ := h
    refine ⟨_,(pss_cons (ps_if (pt_val (pe_fn F_is_name (hr.mono (by decide)) (by rfl) (pa_cons (pv 1) pa_nil))) (pss_one (ps_nox (ps_for PassesOwn.never rfl (pi_list (pe_fld (pv 0) rfl)) (pg_name (i := 2) S_Book_line.nd rfl (Or.inl rfl)) (pss_one (ps_if (pt_cmpR op_eq (pe_ix ix_tup (pv 2) pe_int (fun _ _ => rfl)) (pv 1) (nomark _)) (pss_one (ps_ret (pe_callTy call_list_ofA (by rfl) T.z_list bt_list (pa_cons (pe_ix ix_tup (pv 2) pe_int (fun _ _ => rfl)) pa_nil)))) pss_nil))))) pss_nil) (pss_one (ps_raise O_NoName (by rfl)))),?_⟩
    obtain ⟨dx,k,hb,bo,pa⟩ := bk.ex
    obtain ⟨rs,er,nk,hk,hr'⟩ := bo.ex
    refine ⟨_,rfl,x,rfl,nm,fun H1 s1 => ⟨_,rfl,?_⟩⟩
    cases hx : nmV x with
    | false =>
      refine iteF (no ?_ H1 s1)
      unfold atN
      split
      · rename_i n
        rw [show nameB n = false from hx,if_pos rfl]
      · rfl
    | true =>
      obtain ⟨z,rfl,hn⟩ := nm.str hx
      have ea : atN (.str z) kept = (rs.find? fun r => decide (V.str r.2.1 = V.str z)).map (·.2.2) := by
        unfold atN
        dsimp only
        rw [hn,if_neg (by decide),rows_fnd er]
      refine iteT ?_
      refine ⟨_,rfl,b,C_Book,dx,_,_,rfl,s1 _ _ hb,O_Book.cls,n_kept,rfl,k,rfl,⟨_,SqL.of (s1 _ _ hk)⟩,for_list (K := K) (a := k) (xs := rs.map fun r => V.ref r.1) (fun i σ H3 => ∃ z2,σ = [some (.ref b),some (.str z),z2] ∧ H3 = H1 ∧ (rs.take i).find? (fun r => decide (V.str r.2.1 = V.str z)) = none) ⟨_,rfl,rfl,rfl⟩ ?_ ?_ ?_⟩
      · rintro i σ H3 hi ⟨z2,rfl,rfl,hf⟩
        exact SqL.of (s1 _ _ hk)
      · rintro i v σ H3 hv ⟨z2,rfl,rfl,hf⟩
        rw [List.getElem?_map] at hv
        obtain ⟨r,hr1,rfl⟩ := Option.map_eq_some_iff.mp hv
        obtain ⟨n1,ln,ht,L⟩ := hr' r (List.mem_of_getElem? hr1)
        obtain ⟨qs,eq,n2,hl2,hq⟩ := L.ex
        have ht1 := s1 _ _ ht
        refine ⟨_,rfl,r.1,_,_,_,rfl,rfl,SqT.of ht1,rfl,_,rfl,rfl,_,rfl,ite3 (fun h1 => ?_) (fun h1 => ?_)⟩
        · refine ⟨_,rfl,r.1,_,_,_,rfl,rfl,SqT.of ht1,rfl,ln,_,rfl,.inl (SqL.of (s1 _ _ hl2)),fun l H2 s2 f2 n3 => ?_⟩
          refine ok r.2.2 (by rw [ea,find_at hf hr1 h1]; rfl) l qs H2 (s1.trans s2) (Same.free s1 n3) eq f2 fun q hq' => ⟨(hq q hq').1,s2 _ _ (s1 _ _ (hq q hq').2)⟩
        · exact ⟨_,rfl,rfl,find_next hf hr1 h1⟩
      · rintro σ H3 ⟨z2,rfl,rfl,hf⟩
        rw [List.length_map,List.take_length] at hf
        exact no (by rw [ea,hf]; rfl) H3 s1
theorem S_Book_back : FnScope ["self"] ["self"] (defScope (mtop 26 9)) := ⟨rfl,rfl,rfl,by decide +kernel,rfl,by decide +kernel,by decide +kernel⟩
theorem fn_Book_back {cl : Nat → Addr} (D_Book_back : DfM K C_Book "back" "Book.back" (mtop 26 9)) (O_Book : OwnC K mg "Book" C_Book) (n_kept : NoAttr K C_Book "kept") (n_earlier : NoAttr K C_Book "earlier") (O_NoDeed : ExcC K mg "NoDeed" (cl 5)) (T : Txt mg) : Mt P w K mg base C_Book "back" ["self"] 1 (spBack C_Book cl) := by
  refine D_Book_back.mt S_Book_back (fun _ _ _ _ _ _ us hl => match us,hl with | [_],_ => rfl) (fun vs H Q E h => ?_) (fun f cdv A outer s H vs Q E hr h => ?_)
  · obtain ⟨b,M,e,kept,past,rfl,_⟩ := h
    rfl
  · obtain ⟨b,M,e,kept,past,rfl,op,af⟩ := h
    refine ⟨_,(pss_cons (ps_if (pt_cmpR op_eq (pe_callB call_len_seq (by rfl) T.z_len bt_len (pa_cons (pe_fld (pv 0) rfl) pa_nil)) pe_int (nomark _)) (pss_one (ps_raise O_NoDeed (by rfl))) pss_nil) (pss_one (ps_fld (pv 0) (pe_bm0 PySem.F.plainAttrs_list PySem.F.slot_list_pop PySem.F.type_list_pop mt_popA (pe_fld (pv 0) rfl)) rfl))),?_⟩
    obtain ⟨dx,k,hb,bo,pa⟩ := op.bk.ex
    obtain ⟨ks,ep,he,hk⟩ := pa.ex
    have hl : ks.length = past.length := by rw [← ep,List.length_map]
    have eb : e ≠ b := fun z => op.bk.ne z.symm
    refine ⟨_,rfl,b,C_Book,dx,_,_,rfl,hb,O_Book.cls,n_earlier,rfl,e,_,rfl,.inl (SqL.of he),rfl,_,rfl,ite3 (fun h1 => ?_) (fun h1 => ?_)⟩
    · have h0 : past = [] := by
        rw [List.length_map] at h1
        have : ks.length = 0 := by simpa using h1
        rw [hl] at this
        exact List.eq_nil_of_length_eq_zero this
      subst h0
      exact af.1 (by simp [deed]) H (Same.refl _)
    · rcases List.eq_nil_or_concat ks with rfl | ⟨ks',⟨a,p⟩,rfl⟩
      · exact absurd h1 (by decide)
      have ep' : past = ks'.map (·.2) ++ [p] := by rw [← ep]; simp
      subst ep'
      have hx : (List.map (fun r : Addr × Bk => V.ref r.1) (ks'.concat (a,p))) = ks'.map (fun r => V.ref r.1) ++ [.ref a] := by simp
      rw [hx] at he
      refine ⟨_,rfl,b,C_Book,dx,_,_,rfl,hb,O_Book.cls,n_earlier,rfl,.inl ⟨rfl,_,SqL.of he⟩,e,_,.ref a,rfl,rfl,he,by simp,fun H1 u1 => ?_⟩
      have b1 := u1.at (fun z => eb z.symm) hb
      refine ⟨_,rfl,b,C_Book,dx,_,rfl,b1,O_Book.cls,n_kept,by simp [fsB],?_⟩
      have hM : ∀ x ∈ [b,e],x ∈ M ∨ H x = none := fun x ha => by
        simp only [List.mem_cons,List.not_mem_nil,or_false] at ha
        rcases ha with rfl | rfl
        · exact .inl op.bM
        · exact .inl op.eM
      have bt : But [b,e] H (upd H1 b (.ins C_Book dx (fsB a e))) := (But.upd u1 (by simp)).trans (But.put (by simp))
      have hd : deed 5 .non none kept (ks'.map (·.2) ++ [p]) = (0,p,ks'.map (·.2)) := by
        unfold deed
        rw [if_pos rfl]
        simp
      rw [hd] at af
      refine af.2 rfl _ bt ⟨dx,a,upd_same,(hk (a,p) (by simp)).go bt hM,ks',rfl,?_,fun r hr => (hk r (by simp [hr])).go bt hM⟩
      rw [upd_ne eb,u1.now]
      simp
theorem fnd_same {kept : Bk} {n : Str} {cs : Cs} (nd : (kept.map (·.1)).Nodup) (h : fnd kept n = some cs) : ∀ r ∈ kept,r.1 = n → r.2 = cs := by
  induction kept with
  | nil => intro r hr; cases hr
  | cons a r ih =>
    rw [List.map_cons,List.nodup_cons] at nd
    unfold fnd at h
    rw [List.find?_cons] at h
    intro x hx ex
    by_cases e : a.1 = n
    · rw [decide_eq_true (by rw [e])] at h
      have h : a.2 = cs := Option.some.inj h
      rcases List.mem_cons.mp hx with rfl | hx
      · exact h
      · exact absurd (List.mem_map.mpr ⟨x,hx,by rw [ex,e]⟩) nd.1
    · rw [decide_eq_false (by intro z; cases z; exact e rfl)] at h
      rcases List.mem_cons.mp hx with rfl | hx
      · exact absurd ex e
      · exact ih nd.2 h x hx ex
theorem trn_eq {kept : Bk} {n : Str} {cs : Cs} (nd : (kept.map (·.1)).Nodup) (h : fnd kept n = some cs) : (kept.map fun r => if r.1 = n then (n,cs.reverse) else r) = trn kept n := by
  unfold trn
  refine List.map_congr_left fun r hr => ?_
  by_cases e : r.1 = n
  · rw [if_pos e,if_pos e,fnd_same nd h r hr e,e]
  · rw [if_neg e,if_neg e]
theorem filt_rows {rs : List (Addr × Str × Cs)} {f : V → Bool} {p : Str × Cs → Bool} (h : ∀ r ∈ rs,f (.ref r.1) = p r.2) : (rs.map fun r => V.ref r.1).filter f = (rs.filter fun r => p r.2).map (fun r => V.ref r.1) ∧ (rs.filter fun r => p r.2).map (·.2) = (rs.map (·.2)).filter p := by
  induction rs with
  | nil => exact ⟨rfl,rfl⟩
  | cons r rs ih =>
    obtain ⟨i1,i2⟩ := ih fun r' hr => h r' (List.mem_cons_of_mem _ hr)
    have hr := h r List.mem_cons_self
    simp only [List.map_cons,List.filter_cons,hr]
    cases p r.2 with
    | true => exact ⟨by simp [i1],by simp [i2]⟩
    | false => exact ⟨by simp [i1],by simp [i2]⟩
def rowAt (rs : List (Addr × Str × Cs)) (p : Str × Cs → Bool) (v : V) : Bool := match v with
  | .ref a => (match rs.find? (fun r => decide (r.1 = a)) with
    | some r => p r.2
    | none => false)
  | _ => false
theorem rowAt_eq {M : List Addr} {H : Hp} {rs : List (Addr × Str × Cs)} {p : Str → Bool} (hr : ∀ r ∈ rs,En M H r) {r : Addr × Str × Cs} (m : r ∈ rs) : rowAt rs (fun e => p e.1) (.ref r.1) = p r.2.1 := by
  unfold rowAt
  dsimp only
  cases h : rs.find? (fun r' => decide (r'.1 = r.1)) with
  | none =>
    have := List.find?_eq_none.mp h r m
    simp at this
  | some r' =>
    have e : r'.1 = r.1 := by simpa using List.find?_some h
    obtain ⟨_,l,h1,_⟩ := hr r' (List.mem_of_find?_eq_some h)
    obtain ⟨_,l',h2,_⟩ := hr r m
    rw [e,h2] at h1
    have : r.2.1 = r'.2.1 := by
      have := HO.tup.inj (Option.some.inj h1)
      exact V.str.inj (List.cons.inj this).1
    show p r'.2.1 = p r.2.1
    rw [this]
theorem S_Book_change_line : FnScope ["self","name","line"] ["self","name","line"] (defScope (mtop 26 2)) := ⟨rfl,rfl,rfl,by decide +kernel,rfl,by decide +kernel,by decide +kernel⟩
theorem fn_Book_change_line (D_Book_change_line : DfM K C_Book "change_line" "Book.change_line" (mtop 26 2)) (O_Book : OwnC K mg "Book" C_Book) (n_kept : NoAttr K C_Book "kept") (n_earlier : NoAttr K C_Book "earlier") (F_Book_change_to : Mt P w K mg base C_Book "change_to" ["self","kept"] 1 (spTo C_Book)) (T : Txt mg) : Mt P w K mg base C_Book "change_line" ["self","name","line"] 3 (spChL C_Book) := by
  refine D_Book_change_line.mt S_Book_change_line (fun _ _ _ _ _ _ us hl => match us,hl with | [_,_,_],_ => rfl) (fun vs H Q E h => ?_) (fun f cdv A outer s H vs Q E hr h => ?_)
  · obtain ⟨b,n,ln,M,e,kept,past,cs,rfl,_⟩ := h
    rfl
  · obtain ⟨b,n,ln,M,e,kept,past,cs,rfl,op,L,q⟩ := h
    have CN : CompN (cxOf (CXE P w) P w K mg base ["self","name","line"] "Book.change_line" (defScope (mtop 26 2)) f cdv A outer s H E) (lcA (mtop 26 2) 0) [("name",s.heap.objs.size + 1),("line",s.heap.objs.size + 2)] "entry" [("name",1),("line",2)] :=
      ⟨by rfl,rfl,by decide +kernel,by decide +kernel,rfl,(fun p hp => by simp only [List.mem_cons,List.not_mem_nil,or_false] at hp; rcases hp with rfl | rfl <;> exact rfl),by rfl,by decide +kernel,(fun p hp => by simp only [List.mem_cons,List.not_mem_nil,or_false] at hp; rcases hp with rfl | rfl <;> exact ⟨rfl,rfl,.inr (.inl rfl),rfl,rfl⟩),⟨rfl,rfl⟩,rfl⟩
    obtain ⟨dx,k,hb,bo,pa⟩ := op.bk.ex
    obtain ⟨rs,er,nk,hk,hr'⟩ := bo.ex
    have hn : rs.length = kept.length := by rw [← er,List.length_map]
    have hz := op.gd.len
    refine ⟨_,(pss_one (ps_expr (pe_mtX O_Book F_Book_change_to (hr.mono (by decide)) (pv 0) (pa_cons (pe_compA rfl CN (pi_list (pe_fld (pv 0) rfl)) (fun fp s₀ H₀ => (pe_ifExp (pt_cmpR op_eq (pe_ix (ix_tupK (K := K) rfl) (pv 0) pe_int (fun _ _ => rfl)) (pv 1) (nomark _)) (pe_tupA (pa_cons (pv 1) (pa_cons (pv 2) pa_nil))) (pv 0)))) pa_nil)))),?_⟩
    refine ⟨_,rfl,b,dx,_,rfl,hb,rfl,_,rfl,b,C_Book,dx,_,_,rfl,hb,O_Book.cls,n_kept,rfl,k,rfl,⟨_,SqL.of hk⟩,comp_R (SqL.of hk) (by rw [List.length_map]; omega) (fun i v H2 => ∀ r,rs[i]? = some r → (r.2.1 ≠ n ∧ v = .ref r.1) ∨ (r.2.1 = n ∧ ∃ t,v = .ref t ∧ H t = none ∧ H2 t = some (.tup [.str n,.ref ln]))) (fun i v H2 H3 st h r hr => ?_) (fun i x H2 Kc hx s2 kk => ?_) (fun l ys H2 hl s2 e2 hn' hy => ?_)⟩
    · rcases h r hr with h | ⟨h1,t,h2,h3,h4⟩
      · exact .inl h
      · exact .inr ⟨h1,t,h2,h3,st _ _ h4⟩
    · rw [List.getElem?_map] at hx
      obtain ⟨r,hr1,rfl⟩ := Option.map_eq_some_iff.mp hx
      obtain ⟨n1,l0,ht,_⟩ := hr' r (List.mem_of_getElem? hr1)
      refine ⟨_,rfl,r.1,_,_,_,rfl,rfl,SqT.of (s2 _ _ ht),rfl,_,rfl,rfl,_,rfl,ite3 (fun h1 => ?_) (fun h1 => ?_)⟩
      · refine ⟨_,rfl,_,rfl,sz (by simp),fun t H4 s4 f4 n4 => kk _ _ s4 fun r' h' => ?_⟩
        rw [hr1] at h'
        cases h'
        exact .inr ⟨by simpa using h1,t,rfl,Same.free s2 n4,f4⟩
      · refine ⟨_,rfl,kk _ _ (Same.refl _) fun r' h' => ?_⟩
        rw [hr1] at h'
        cases h'
        exact .inl ⟨by simpa using h1,rfl⟩
    · rw [List.length_map] at hn'
      have lv := op.lv
      obtain ⟨rs',e1',e2',h3'⟩ := rows_of (G := fun r => En M H2 r) (es := kept.map fun r => if r.1 = n then (n,cs) else r) (ys := ys) (by rw [List.length_map]; omega) (fun i y e' h1 h2 => by
        rw [List.getElem?_map] at h2
        obtain ⟨r0,hr0,rfl⟩ := Option.map_eq_some_iff.mp h2
        rw [← er,List.getElem?_map] at hr0
        obtain ⟨r,hr1,rfl⟩ := Option.map_eq_some_iff.mp hr0
        have E0 := (hr' r (List.mem_of_getElem? hr1)).go (N := []) (.of s2) (by simp)
        rcases hy i y h1 r hr1 with ⟨q1,q2⟩ | ⟨q1,t,q2,q3,q4⟩
        · exact ⟨r.1,q2,by rw [if_neg q1]; exact E0⟩
        · refine ⟨t,q2,?_⟩
          rw [if_pos q1]
          exact ⟨lv.out q3,ln,q4,L.go (N := []) (.of s2) (by simp)⟩)
      have bo2 : Bo M H2 l (kept.map fun r => if r.1 = n then (n,cs) else r) := ⟨rs',e1',lv.out hl,by rw [e2,e2'],h3'⟩
      obtain ⟨dx2,k2,ks2,g1,g2,g3,g4⟩ := op.to s2 bo2
      refine ⟨b,l,dx2,k2,e,ks2,rfl,g1,g2,g3,fun H' bt a1 a2 => ?_⟩
      obtain ⟨bt',bk'⟩ := g4 H' bt a1 a2
      exact q H' bt' bk'
theorem S_Book_strike : FnScope ["self","name"] ["self","name"] (defScope (mtop 26 6)) := ⟨rfl,rfl,rfl,by decide +kernel,rfl,by decide +kernel,by decide +kernel⟩
theorem fn_Book_strike {cl : Nat → Addr} (D_Book_strike : DfM K C_Book "strike" "Book.strike" (mtop 26 6)) (O_Book : OwnC K mg "Book" C_Book) (n_kept : NoAttr K C_Book "kept") (n_earlier : NoAttr K C_Book "earlier") (F_Book_change_to : Mt P w K mg base C_Book "change_to" ["self","kept"] 1 (spTo C_Book)) (F_Book_line : Mt P w K mg base C_Book "line" ["self","name"] 2 (spLineB C_Book (cl 1))) (T : Txt mg) : Mt P w K mg base C_Book "strike" ["self","name"] 3 (spDeed C_Book cl 3) := by
  refine D_Book_strike.mt S_Book_strike (fun _ _ _ _ _ _ us hl => match us,hl with | [_,_],_ => rfl) (fun vs H Q E h => ?_) (fun f cdv A outer s H vs Q E hr h => ?_)
  · obtain ⟨b,x,M,e,kept,past,rfl,_⟩ := h
    rfl
  · obtain ⟨b,x,M,e,kept,past,rfl,op,nm,af⟩ := h
    have CN : CompM (cxOf (CXE P w) P w K mg base ["self","name"] "Book.strike" (defScope (mtop 26 6)) f cdv A outer s H E) (lcA (mtop 26 6) 0) [("name",s.heap.objs.size + 1)] ["entry"] [("name",1)] :=
      ⟨by rfl,rfl,by decide +kernel,by decide +kernel,(fun x hx => by simp only [List.mem_cons,List.not_mem_nil,or_false] at hx; rcases hx with rfl <;> exact rfl),(fun p hp => by simp only [List.mem_cons,List.not_mem_nil,or_false] at hp; rcases hp with rfl <;> exact rfl),by rfl,by decide +kernel,(fun p hp => by simp only [List.mem_cons,List.not_mem_nil,or_false] at hp; rcases hp with rfl <;> exact ⟨rfl,rfl,.inr (.inl rfl),rfl,rfl⟩),⟨rfl,rfl⟩,rfl⟩
    obtain ⟨dx,k,hb,bo,pa⟩ := op.bk.ex
    have hz := op.gd.len
    refine ⟨_,(pss_cons (ps_expr (pe_mtX O_Book F_Book_line (hr.mono (by decide)) (pv 0) (pa_cons (pv 1) pa_nil))) (pss_one (ps_expr (pe_mtX O_Book F_Book_change_to (hr.mono (by decide)) (pv 0) (pa_cons (pe_compG rfl CN (pi_list (pe_fld (pv 0) rfl)) (fun fp s₀ H₀ => (pg_name (i := 0) CN.nd rfl (Or.inl rfl) (Or.inr rfl))) (fun fp s₀ H₀ => (pts_one (pt_cmpR op_ne (pe_ix (ix_tupK (K := K) rfl) (pv 0) pe_int (fun _ _ => rfl)) (pv 1) (nomark _)))) (fun fp s₀ H₀ => (pv 0))) pa_nil))))),?_⟩
    refine ⟨_,rfl,b,dx,_,rfl,hb,rfl,_,rfl,b,x,M,e,kept,past,rfl,op.bk,nm,by omega,op.gd.ln,fun cs hc l qs H1 s1 _ _ _ _ => ?_,fun hc H1 s1 => ?_⟩
    · obtain ⟨n,rfl,hn,hf⟩ := atN_str hc
      rw [deed_some (.inl rfl) hn hf] at af
      obtain ⟨dx,k,hb,bo,pa⟩ := (op.bk.mono s1).ex
      obtain ⟨rs,er,nk,hk,hr'⟩ := bo.ex
      have hl : rs.length = kept.length := by rw [← er,List.length_map]
      refine ⟨_,rfl,b,dx,_,rfl,hb,rfl,_,rfl,b,C_Book,dx,_,_,rfl,hb,O_Book.cls,n_kept,rfl,k,rfl,⟨_,SqL.of hk⟩,comp_lstP hk (by rw [List.length_map]; omega) (rowAt rs fun r => !decide (V.str r.1 = V.str n)) id (fun v H2 τ Kc Kn hv s2 hτ k1 k2 => ?_) (fun l2 H2 hl2 s2 e2 => ?_)⟩
      · obtain ⟨r,hr1,rfl⟩ := List.mem_map.mp hv
        obtain ⟨n1,l0,ht,_⟩ := hr' r hr1
        obtain ⟨τ0,rfl⟩ := List.length_eq_one_iff.mp hτ
        have er' := rowAt_eq (p := fun m => !decide (V.str m = V.str n)) hr' hr1
        refine ⟨⟨[some (.ref r.1)],rfl,rfl⟩,_,rfl,r.1,_,_,_,rfl,rfl,SqT.of (s2 _ _ ht),rfl,_,rfl,rfl,_,rfl,ite3 (fun h1 => ?_) (fun h1 => ?_)⟩
        · exact ⟨_,rfl,k1 (by rw [er']; exact h1) _ (Same.refl _)⟩
        · exact k2 (by rw [er']; exact h1) _ (Same.refl _)
      · have fr := filt_rows (rs := rs) (f := rowAt rs fun r => !decide (V.str r.1 = V.str n)) (p := fun r => !decide (V.str r.1 = V.str n)) (fun r hr => rowAt_eq (p := fun m => !decide (V.str m = V.str n)) hr' hr)
        have op1 := op.mono s1
        have bo2 : Bo M H2 l2 (strk kept n) := ⟨_,by rw [fr.2,er]; rfl,op1.lv.out hl2,by rw [e2,List.map_id,fr.1],fun r hr => (hr' r (List.mem_filter.mp hr).1).go (N := []) (.of s2) (by simp)⟩
        obtain ⟨dx2,k2,ks2,g1,g2,g3,g4⟩ := op.to (s1.trans s2) bo2
        refine ⟨b,l2,dx2,k2,e,ks2,rfl,g1,g2,g3,fun H' bt a1 a2 => ?_⟩
        obtain ⟨bt',bk'⟩ := g4 H' bt a1 a2
        exact af.2 rfl H' bt' bk'
    · rw [deed_none (.inl rfl) hc] at af
      exact af.1 (by simp) H1 s1
theorem S_Book_turn : FnScope ["self","name","line"] ["self","name"] (defScope (mtop 26 7)) := ⟨rfl,rfl,rfl,by decide +kernel,rfl,by decide +kernel,by decide +kernel⟩
theorem fn_Book_turn {cl : Nat → Addr} (D_Book_turn : DfM K C_Book "turn" "Book.turn" (mtop 26 7)) (O_Book : OwnC K mg "Book" C_Book) (n_kept : NoAttr K C_Book "kept") (n_earlier : NoAttr K C_Book "earlier") (F_Book_line : Mt P w K mg base C_Book "line" ["self","name"] 2 (spLineB C_Book (cl 1))) (F_Book_change_line : Mt P w K mg base C_Book "change_line" ["self","name","line"] 3 (spChL C_Book)) (T : Txt mg) : Mt P w K mg base C_Book "turn" ["self","name"] 4 (spDeed C_Book cl 4) := by
  refine D_Book_turn.mt S_Book_turn (fun _ _ _ _ _ _ us hl => match us,hl with | [_,_],_ => rfl) (fun vs H Q E h => ?_) (fun f cdv A outer s H vs Q E hr h => ?_)
  · obtain ⟨b,x,M,e,kept,past,rfl,_⟩ := h
    rfl
  · obtain ⟨b,x,M,e,kept,past,rfl,op,nm,af⟩ := h
    refine ⟨_,(pss_cons (ps_set (i := 2) S_Book_turn.nd rfl (Or.inl rfl) (pe_mtX O_Book F_Book_line (hr.mono (by decide)) (pv 0) (pa_cons (pv 1) pa_nil))) (pss_cons (ps_expr (pe_bm0 PySem.F.plainAttrs_list PySem.F.slot_list_reverse PySem.F.type_list_reverse mt_reverseA (pv 2))) (pss_one (ps_expr (pe_mtX O_Book F_Book_change_line (hr.mono (by decide)) (pv 0) (pa_cons (pv 1) (pa_cons (pv 2) pa_nil))))))),?_⟩
    obtain ⟨dx,k,hb,bo,pa⟩ := op.bk.ex
    have hz := op.gd.len
    refine ⟨_,rfl,b,dx,_,rfl,hb,rfl,_,rfl,b,x,M,e,kept,past,rfl,op.bk,nm,by omega,op.gd.ln,fun cs hc l qs H1 s1 n1 eq e1 hq => ?_,fun hc H1 s1 => ?_⟩
    · obtain ⟨n,rfl,hn,hf⟩ := atN_str hc
      rw [deed_some (.inr rfl) hn hf] at af
      refine ⟨_,rfl,.inl ⟨rfl,_,SqL.of e1⟩,l,_,rfl,rfl,e1,fun H2 u2 => ?_⟩
      have s2 : Same H H2 := u2.same s1 n1
      have op2 := op.mono s2
      obtain ⟨dx,k,hb,bo,pa⟩ := op2.bk.ex
      have nl : l ∉ M := op.lv.out n1
      have L : Ln M H2 l cs.reverse := ⟨qs.reverse,by rw [List.map_reverse,eq],nl,by rw [u2.now,List.map_reverse],fun q hq' => ⟨(hq q (List.mem_reverse.mp hq')).1,u2.t _ _ (hq q (List.mem_reverse.mp hq')).2⟩⟩
      refine ⟨_,rfl,b,dx,_,rfl,hb,rfl,_,rfl,_,rfl,b,n,l,M,e,kept,past,cs.reverse,rfl,op2,L,fun H' bt bk' => ?_⟩
      rw [trn_eq op.gd.nd hf] at bk'
      exact af.2 rfl H' ((But.of s2).trans bt) bk'
    · rw [deed_none (.inr rfl) hc] at af
      exact af.1 (by simp) H1 s1
theorem inV_strs {x : Str} {ws : List Str} : inV (.str x) (ws.map V.str) = decide (x ∈ ws) := by
  unfold inV
  induction ws with
  | nil => simp
  | cons a r ih =>
    rw [List.map_cons,List.any_cons,ih]
    show ((a == x) || _) = _
    by_cases h : a = x
    · subst h
      simp
    · rw [beq_eq_false_iff_ne.mpr h,Bool.false_or]
      have : ¬ x = a := fun z => h z.symm
      simp [this]
theorem inV_nms {x : Str} {kept : Bk} : inV (.str x) (kept.map fun r => V.str r.1) = decide (x ∈ kept.map (·.1)) := by
  rw [← inV_strs,List.map_map]
  rfl
theorem flat_nms (kept : Bk) : (kept.map fun r => V.str r.1).all flatV = true := by
  rw [List.all_eq_true]
  intro v hv
  obtain ⟨r,_,rfl⟩ := List.mem_map.mp hv
  rfl
theorem deed_bad {way : Nat} {x : V} {lo : Option Cs} {kept : Bk} {past : List Bk} (hw : way ≠ 5) (h : nmV x = false) : deed way x lo kept past = (1,kept,past) := by
  unfold deed
  rw [if_neg hw]
  split
  · rename_i n
    rw [if_pos (show nameB n = false from h)]
  · rfl
theorem deed_put {way : Nat} {n : Str} {lo : Option Cs} {kept : Bk} {past : List Bk} (hw : way < 3) (h : nameB n = true) : deed way (.str n) lo kept past = (if n ∈ kept.map (·.1) then (2, kept, past) else match lo with
        | none => (3,kept,past)
        | some cs => if 6 ≤ kept.length then (4,kept,past) else (0,kept ++ [(n,cs)],past ++ [kept])) := by
  unfold deed
  rw [if_neg (by omega)]
  dsimp only
  rw [h,if_neg (by decide),if_pos hw]
theorem S_Book_put : FnScope ["self","name","corners","line"] ["self","name","corners"] (defScope (mtop 26 5)) := ⟨rfl,rfl,rfl,by decide +kernel,rfl,by decide +kernel,by decide +kernel⟩
theorem fn_Book_put {cl : Nat → Addr} (D_Book_put : DfM K C_Book "put" "Book.put" (mtop 26 5)) (O_Book : OwnC K mg "Book" C_Book) (n_kept : NoAttr K C_Book "kept") (n_earlier : NoAttr K C_Book "earlier") (V_MOST : ∃ tk,mg "MOST_LINES" = some (.int 6 tk)) (O_NoName : ExcC K mg "NoName" (cl 1)) (O_Twice : ExcC K mg "Twice" (cl 2)) (O_TooMany : ExcC K mg "TooMany" (cl 4)) (F_is_name : Fn P w K mg base "is_name" ["thing"] 1 spIsName) (F_Book_names : Mt P w K mg base C_Book "names" ["self"] 1 (spNames C_Book)) (F_line_of : Fx P w K mg base "line_of" ["thing"] 5 [] (spLineOf (cl 3))) (F_Book_change_to : Mt P w K mg base C_Book "change_to" ["self","kept"] 1 (spTo C_Book)) (T : Txt mg) : Mt P w K mg base C_Book "put" ["self","name","corners"] 6 (spPut C_Book cl) := by
  refine D_Book_put.mt S_Book_put (fun _ _ _ _ _ _ us hl => match us,hl with | [_,_,_],_ => rfl) (fun vs H Q E h => ?_) (fun f cdv A outer s H vs Q E hr h => ?_)
  · obtain ⟨b,x,y,M,e,kept,past,lo,rfl,_⟩ := h
    rfl
  · obtain ⟨b,x,y,M,e,kept,past,lo,rfl,op,nm,lno,af⟩ := h
    obtain ⟨tS,G_MOST_LINES⟩ := V_MOST
    have hz := op.gd.len
    refine ⟨_,(pss_cons (ps_if (pt_not (pt_val (pe_fn F_is_name (hr.mono (by decide)) (by rfl) (pa_cons (pv 1) pa_nil)))) (pss_one (ps_raise O_NoName (by rfl))) pss_nil) (pss_cons (ps_if (pt_cmpR op_in_seq (pv 1) (pe_mtX0 O_Book F_Book_names (hr.mono (by decide)) (pv 0)) (by rfl)) (pss_one (ps_raise O_Twice (by rfl))) pss_nil) (pss_cons (ps_set (i := 3) S_Book_put.nd rfl (Or.inl rfl) (pe_fx F_line_of (hr.mono (by decide)) (by rfl) (pa_cons (pv 2) pa_nil))) (pss_cons (ps_if (pt_cmpR op_ge (pe_callB call_len_seq (by rfl) T.z_len bt_len (pa_cons (pe_fld (pv 0) rfl) pa_nil)) (pe_glob (v := .int 6) (by rfl) G_MOST_LINES ⟨_,rfl⟩) (nomark _)) (pss_one (ps_raise O_TooMany (by rfl))) pss_nil) (pss_one (ps_expr (pe_mtX O_Book F_Book_change_to (hr.mono (by decide)) (pv 0) (pa_cons (pe_op op_catA (pe_fld (pv 0) rfl) (@pe_lstA _ _ _ _ (@pa_cons _ _ _ _ _ (@pe_tupA _ _ _ _ _ (@pa_cons _ _ _ _ _ (pv 1) (@pa_cons _ _ _ _ _ (pv 3) pa_nil (by rfl)) (by rfl))) pa_nil (by rfl)))) pa_nil)))))))),?_⟩
    refine ⟨_,rfl,x,rfl,nm,fun H1 s1 => ⟨_,rfl,?_⟩⟩
    cases hx : nmV x with
    | false =>
      rw [deed_bad (by decide) hx] at af
      exact iteT (af.1 (by simp) H1 s1)
    | true =>
      refine iteF ?_
      obtain ⟨z,rfl,hn⟩ := nm.str hx
      rw [deed_put (by decide) hn] at af
      have op1 := op.mono s1
      obtain ⟨dx,k,hb,bo,pa⟩ := op1.bk.ex
      refine ⟨_,rfl,_,rfl,b,dx,_,rfl,hb,rfl,b,M,e,kept,past,rfl,op1.bk,by omega,fun l2 H2 s2 n2 f2 => ⟨l2,_,rfl,.inl (SqL.of f2),rfl,flat_nms kept,_,rfl,ite3 (fun h1 => ?_) (fun h1 => ?_)⟩⟩
      · rw [if_pos (by rw [if_neg (by decide),inV_nms] at h1; simpa using h1)] at af
        exact af.1 (by simp) H2 (s1.trans s2)
      · rw [if_neg (by rw [if_neg (by decide),inV_nms] at h1; simpa using h1)] at af
        have S2 := s1.trans s2
        have op2 := op.mono S2
        cases lo with
        | none =>
          have lo2 := lno.mono S2
          exact ⟨_,rfl,y,rfl,lo2.1,.inl ⟨lo2.2,fun H3 s3 => af.1 (by simp) H3 (S2.trans s3)⟩⟩
        | some cs =>
          have lo2 := lno.mono S2
          obtain ⟨p,qs,rfl,L,eq⟩ := lo2
          refine ⟨_,rfl,_,rfl,L.th,.inr ⟨p,qs,rfl,L,fun r rs H3 nr nrs ers L3 s3 => ?_⟩⟩
          have S3 := S2.trans s3
          have op3 := op.mono S3
          obtain ⟨dx,k,hb,bo,pa⟩ := op3.bk.ex
          obtain ⟨ts,et,nk,hk,ht⟩ := bo.ex
          have hl : (ts.map fun r => V.ref r.1).length = kept.length := by rw [List.length_map,← et,List.length_map]
          refine ⟨_,rfl,b,C_Book,dx,_,_,rfl,hb,O_Book.cls,n_kept,rfl,k,_,rfl,.inl (SqL.of hk),_,_,rfl,rfl,_,rfl,ite3 (fun h2 => ?_) (fun h2 => ?_)⟩
          · have h2' : 6 ≤ kept.length := by
              rw [hl] at h2
              have : (6 : Int) ≤ (kept.length : Int) := by simpa using h2
              omega
            dsimp only at af
            rw [if_pos h2'] at af
            exact af.1 (by simp) H3 S3
          · have h2' : ¬ 6 ≤ kept.length := by
              rw [hl] at h2
              have : ¬ (6 : Int) ≤ (kept.length : Int) := by simpa using h2
              omega
            dsimp only at af
            rw [if_neg h2'] at af
            refine ⟨_,rfl,b,dx,_,rfl,hb,rfl,_,rfl,b,C_Book,dx,_,_,rfl,hb,O_Book.cls,n_kept,rfl,_,rfl,_,rfl,sz (by simp),fun t H4 s4 f4 n4 => ⟨sz (by simp),fun l5 H5 s5 f5 n5 => ⟨k,l5,_,_,rfl,rfl,s5 _ _ (s4 _ _ hk),f5,?_,fun l6 H6 s6 f6 n6 => ?_⟩⟩⟩
            · rw [sizeLine_eq,hl]
              simp only [List.length_cons,List.length_nil]
              omega
            · have s36 : Same H3 H6 := s4.trans (s5.trans s6)
              have lv := op3.lv
              have l1 : Ln M H6 r cs := ⟨rs,by rw [ers,eq],(op2.lv).out nr,s36 _ _ L3.lst,fun q hq => ⟨(op2.lv).out (nrs q hq),s36 _ _ (L3.crn q hq).1⟩⟩
              have bo6 : Bo M H6 l6 (kept ++ [(z,cs)]) := by
                refine ⟨ts ++ [(t,z,cs)],by rw [List.map_append,et]; rfl,((lv.mono s4).mono s5).out n6,by rw [f6,List.map_append]; rfl,fun r' hr' => ?_⟩
                rcases List.mem_append.mp hr' with hr' | hr'
                · exact (ht r' hr').go (N := []) (.of s36) (by simp)
                · rw [List.mem_singleton.mp hr']
                  exact ⟨lv.out n4,r,s6 _ _ (s5 _ _ f4),l1⟩
              obtain ⟨dx2,k2,ks2,g1,g2,g3,g4⟩ := op.to (S3.trans s36) bo6
              refine ⟨b,l6,dx2,k2,e,ks2,rfl,g1,g2,g3,fun H' bt a1 a2 => ?_⟩
              obtain ⟨bt',bk'⟩ := g4 H' bt a1 a2
              exact af.2 rfl H' bt' bk'
def wrd (c : Nat) : Str := [Str.ofString "",Str.ofString "name",Str.ofString "twice",Str.ofString "line",Str.ofString "many",Str.ofString "deed"].getD c (Str.ofString "")
def ixc (c : Nat) : Nat := if c = 5 then 5 else c - 1
def mks (c : Nat) : List Bool := [0 == ixc c,1 == ixc c,2 == ixc c,3 == ixc c,4 == ixc c,5 == ixc c,6 == ixc c,7 == ixc c]
def w8 : List V := [.str (Str.ofString "name"),.str (Str.ofString "twice"),.str (Str.ofString "line"),.str (Str.ofString "many"),.str (Str.ofString "square"),.str (Str.ofString "deed"),.str (Str.ofString "row"),.str (Str.ofString "lines")]
theorem five {c : Nat} (h : 1 ≤ c ∧ c ≤ 5) : c = 1 ∨ c = 2 ∨ c = 3 ∨ c = 4 ∨ c = 5 := by omega
theorem mk_count {c : Nat} (h : 1 ≤ c ∧ c ≤ 5) : (mks c).count true = 1 := by rcases five h with rfl | rfl | rfl | rfl | rfl <;> decide
theorem mk_ix {c : Nat} (h : 1 ≤ c ∧ c ≤ 5) : (mks c)[ixc c]? = some true := by rcases five h with rfl | rfl | rfl | rfl | rfl <;> decide
theorem mk_no {c : Nat} (h : 1 ≤ c ∧ c ≤ 5) : ∀ m,m < ixc c → (mks c)[m]? = some false := by rcases five h with rfl | rfl | rfl | rfl | rfl <;> decide
theorem mk_word {c : Nat} (h : 1 ≤ c ∧ c ≤ 5) : atI w8 (ixc c : Nat) = some (.str (wrd c)) := by rcases five h with rfl | rfl | rfl | rfl | rfl <;> rfl
structure Wd (K : PySem.W.Frag) (mg : Str → Option Value) (cl : Nat → Addr) (L : Addr) (ds : List Addr) : Prop where
  exc : ∀ c,1 ≤ c ∧ c ≤ 5 → ∃ n,ExcC K mg n (cl c)
  f : ∀ c,1 ≤ c ∧ c ≤ 5 → ExcF K (cl c)
  v : ∀ c,1 ≤ c ∧ c ≤ 5 → PySem.W.kitOne K (.ref (cl c)) (.type "ValueError") = some true
  i : ∀ c,1 ≤ c ∧ c ≤ 5 → ∀ (j : Nat) D,ds[j]? = some D → PySem.W.kitOne K (.ref (cl c)) (.ref D) = some (j == ixc c)
  m : ∀ c,1 ≤ c ∧ c ≤ 5 → PySem.W.exmOne K (.ref (cl c)) (.ref L) = some true
inductive Cls5 (cl : Nat → Addr) (C : Addr) : Prop
  | mk : ∀ c,((1 ≤ c ∧ c ≤ 5)) → (C = cl c) → Cls5 cl C
inductive spWord (cl : Nat → Addr) (vs : List V) (H : Hp) (Q : VK) (x_3 : XK) : Prop
  | mk : ∀ (x : Addr) (c : Nat),(vs = [.ref x]) → ((1 ≤ c ∧ c ≤ 5)) → (H x = some (excO (cl c) x)) → (∀ H',Same H H' → Q (.str (wrd c)) H') → spWord cl vs H Q x_3
theorem After.imp {M : List Addr} {C : Addr} {cl : Nat → Addr} {b e : Addr} {H : Hp} {Q : VK} {E E' : XK} {r : Nat × Bk × List Bk} (a : After M C cl b e H Q E r) (h : ∀ c o H',E c o H' → E' c o H') : After M C cl b e H Q E' r := ⟨fun z H' s => h _ _ _ (a.1 z H' s),a.2⟩
inductive spDone (C : Addr) (cl : Nat → Addr) (vs : List V) (H : Hp) (Q : VK) (x_3 : XK) : Prop
  | mk : ∀ (b : Addr) (way : Nat) (x y : V) (M : List Addr) (e : Addr) (kept : Bk) (past : List Bk) (lo : Option Cs),(vs = [.ref b,.int (way : Int),x,y]) → (Open M C H b e kept past) → (Nm H x) → (LnO H y lo) → (way ≤ 5) → (∀ H',But [b,e] H H' → BookR M C H' b e (deed way x lo kept past).2.1 (deed way x lo kept past).2.2 → Q (.str (wrd (deed way x lo kept past).1)) H') → spDone C cl vs H Q x_3
theorem deed_lt {way : Nat} {x : V} {lo : Option Cs} {kept : Bk} {past : List Bk} (h : way < 3) : deed way x lo kept past = deed 0 x lo kept past := by
  unfold deed
  rw [if_neg (by omega),if_neg (by omega)]
  split
  · simp only [if_pos h,if_pos (show (0 : Nat) < 3 by omega)]
  · rfl
theorem deed_lo {way : Nat} {x : V} {lo : Option Cs} {kept : Bk} {past : List Bk} (h : way = 3 ∨ way = 4) : deed way x lo kept past = deed way x none kept past := by
  unfold deed
  rw [if_neg (by omega),if_neg (by omega)]
  split
  · simp only [if_neg (show ¬ way < 3 by omega)]
  · rfl
theorem deed_bk {x : V} {lo : Option Cs} {kept : Bk} {past : List Bk} : deed 5 x lo kept past = deed 5 .non none kept past := by
  unfold deed
  rw [if_pos rfl,if_pos rfl]
theorem deed_err {way : Nat} {x : V} {lo : Option Cs} {kept : Bk} {past : List Bk} : (deed way x lo kept past).1 ≠ 0 → (1 ≤ (deed way x lo kept past).1 ∧ (deed way x lo kept past).1 ≤ 5) ∧ (deed way x lo kept past).2 = (kept,past) := by
  generalize hr : deed way x lo kept past = r
  unfold deed at hr
  intro h
  (repeat' split at hr) <;> subst hr <;> first | exact absurd rfl h | exact ⟨⟨by simp,by simp⟩,rfl⟩
theorem S_law_word : FnScope ["caught","some"] ["caught"] (defScope (top 32)) := ⟨rfl,rfl,rfl,by decide +kernel,rfl,by decide +kernel,by decide +kernel⟩
theorem fn_law_word {cl : Nat → Addr} {L d0 d1 d2 d3 d4 d5 d6 d7 : Addr} (D_law_word : Df K mg "_law_word" (top 32)) (O_NoName : ExcC K mg "NoName" d0) (O_Twice : ExcC K mg "Twice" d1) (O_NoLine : ExcC K mg "NoLine" d2) (O_TooMany : ExcC K mg "TooMany" d3) (O_NoSquare : ExcC K mg "NoSquare" d4) (O_NoDeed : ExcC K mg "NoDeed" d5) (O_NoRow : ExcC K mg "NoRow" d6) (O_NoLines : ExcC K mg "NoLines" d7) (wd : Wd K mg cl L [d0,d1,d2,d3,d4,d5,d6,d7]) (T : Txt mg) : Fn P w K mg base "_law_word" ["caught"] 1 (spWord cl) := by
  refine D_law_word.fn S_law_word (fun _ _ _ _ _ _ us hl => match us,hl with | [_],_ => rfl) (fun vs H Q E h => ?_) (fun f cdv A outer s H vs Q E hr h => ?_)
  · obtain ⟨x,c,rfl,_⟩ := h
    rfl
  · obtain ⟨x,c,rfl,hc,hx,q⟩ := h
    have IE : CallR (cxOf CX0 P w K mg base ["caught","some"] "_law_word" (defScope (top 32)) f cdv A outer s H E).nox (.builtin "isinstance") (rIsEM K (Cls5 cl)) := call_isexcM fun Z hZ => by
      obtain ⟨c,hc,rfl⟩ := hZ
      exact ⟨wd.exc c hc,wd.f c hc⟩
    refine ⟨_,(pss_cons (ps_set (i := 1) S_law_word.nd rfl (Or.inl rfl) (pe_lstA (pa_cons (pe_callB (IE) (by rfl) T.z_isinstance bt_isinstance (pa_cons (pv 0) (pa_cons (pe_glob (v := .ref _) (by rfl) O_NoName.bound rfl) pa_nil))) (pa_cons (pe_callB (IE) (by rfl) T.z_isinstance bt_isinstance (pa_cons (pv 0) (pa_cons (pe_glob (v := .ref _) (by rfl) O_Twice.bound rfl) pa_nil))) (pa_cons (pe_callB (IE) (by rfl) T.z_isinstance bt_isinstance (pa_cons (pv 0) (pa_cons (pe_glob (v := .ref _) (by rfl) O_NoLine.bound rfl) pa_nil))) pa_nil))))) (pss_cons (ps_set (i := 1) S_law_word.nd rfl (Or.inl rfl) (pe_op op_catA (pv 1) (pe_lstA (pa_cons (pe_callB (IE) (by rfl) T.z_isinstance bt_isinstance (pa_cons (pv 0) (pa_cons (pe_glob (v := .ref _) (by rfl) O_TooMany.bound rfl) pa_nil))) (pa_cons (pe_callB (IE) (by rfl) T.z_isinstance bt_isinstance (pa_cons (pv 0) (pa_cons (pe_glob (v := .ref _) (by rfl) O_NoSquare.bound rfl) pa_nil))) (pa_cons (pe_callB (IE) (by rfl) T.z_isinstance bt_isinstance (pa_cons (pv 0) (pa_cons (pe_glob (v := .ref _) (by rfl) O_NoDeed.bound rfl) pa_nil))) pa_nil)))))) (pss_cons (ps_set (i := 1) S_law_word.nd rfl (Or.inl rfl) (pe_op op_catA (pv 1) (pe_lstA (pa_cons (pe_callB (IE) (by rfl) T.z_isinstance bt_isinstance (pa_cons (pv 0) (pa_cons (pe_glob (v := .ref _) (by rfl) O_NoRow.bound rfl) pa_nil))) (pa_cons (pe_callB (IE) (by rfl) T.z_isinstance bt_isinstance (pa_cons (pv 0) (pa_cons (pe_glob (v := .ref _) (by rfl) O_NoLines.bound rfl) pa_nil))) pa_nil))))) (pss_cons (ps_if (pw_or (pt_cmpR op_ne (pe_bm PySem.F.plainAttrs_list PySem.F.slot_list_count PySem.F.type_list_count mt_countT (pv 1) (pa_cons pe_bl pa_nil)) pe_int (nomark _)) (pw_or1 (pt_not (pt_val (pe_callB (IE) (by rfl) T.z_isinstance bt_isinstance (pa_cons (pv 0) (pa_cons (pe_ty T.z_ValueError bt_ValueError) pa_nil))))))).pt (pss_one (ps_ret pe_str)) pss_nil) (pss_one (ps_ret (pe_ix ix_list (@pe_lstA _ _ _ _ (@pa_cons _ _ _ _ _ pe_str (@pa_cons _ _ _ _ _ pe_str (@pa_cons _ _ _ _ _ pe_str (@pa_cons _ _ _ _ _ pe_str (@pa_cons _ _ _ _ _ pe_str (@pa_cons _ _ _ _ _ pe_str (@pa_cons _ _ _ _ _ pe_str (@pa_cons _ _ _ _ _ pe_str pa_nil (by rfl)) (by rfl)) (by rfl)) (by rfl)) (by rfl)) (by rfl)) (by rfl)) (by rfl))) (pe_bm PySem.F.plainAttrs_list PySem.F.slot_list_index PySem.F.type_list_index mt_indexT (pv 1) (pa_cons pe_bl pa_nil)) (fun _ _ => rfl)))))))),?_⟩
    refine ⟨_,rfl,cl c,⟨c,hc,rfl⟩,x,_,_,rfl,hx,.inl ⟨_,rfl,wd.i c hc 0 _ rfl⟩,_,rfl,cl c,⟨c,hc,rfl⟩,x,_,_,rfl,hx,.inl ⟨_,rfl,wd.i c hc 1 _ rfl⟩,_,rfl,cl c,⟨c,hc,rfl⟩,x,_,_,rfl,hx,.inl ⟨_,rfl,wd.i c hc 2 _ rfl⟩,sz (by simp),fun l1 H1 s1 f1 n1 => ?_⟩
    have x1 := s1 _ _ hx
    refine ⟨_,rfl,_,rfl,cl c,⟨c,hc,rfl⟩,x,_,_,rfl,x1,.inl ⟨_,rfl,wd.i c hc 3 _ rfl⟩,_,rfl,cl c,⟨c,hc,rfl⟩,x,_,_,rfl,x1,.inl ⟨_,rfl,wd.i c hc 4 _ rfl⟩,_,rfl,cl c,⟨c,hc,rfl⟩,x,_,_,rfl,x1,.inl ⟨_,rfl,wd.i c hc 5 _ rfl⟩,sz (by simp),fun l2 H2 s2 f2 n2 => ⟨l1,l2,_,_,rfl,rfl,s2 _ _ f1,f2,sz (by simp),fun l3 H3 s3 f3 n3 => ?_⟩⟩
    have x3 := s3 _ _ (s2 _ _ x1)
    refine ⟨_,rfl,_,rfl,cl c,⟨c,hc,rfl⟩,x,_,_,rfl,x3,.inl ⟨_,rfl,wd.i c hc 6 _ rfl⟩,_,rfl,cl c,⟨c,hc,rfl⟩,x,_,_,rfl,x3,.inl ⟨_,rfl,wd.i c hc 7 _ rfl⟩,sz (by simp),fun l4 H4 s4 f4 n4 => ⟨l3,l4,_,_,rfl,rfl,s4 _ _ f3,f4,sz (by simp),fun l5 H5 s5 f5 n5 => ?_⟩⟩
    have x5 := s5 _ _ (s4 _ _ x3)
    have f5' : H5 l5 = some (.lst ((mks c).map V.bl)) := f5
    have S5 : Same H H5 := s1.trans (s2.trans (s3.trans (s4.trans s5)))
    refine ⟨_,rfl,.inl ⟨rfl,_,SqL.of f5⟩,l5,mks c,rfl,rfl,f5',?_⟩
    rw [mk_count hc]
    refine ⟨rfl,_,rfl,iteFalse (by decide) ?_⟩
    refine ⟨_,rfl,cl c,⟨c,hc,rfl⟩,x,_,_,rfl,x5,.inr (.inl ⟨_,rfl,wd.v c hc⟩),_,rfl,iteFalse (by decide) ?_⟩
    refine ⟨sz (by simp),fun l6 H6 s6 f6 n6 => ⟨_,rfl,.inl ⟨rfl,_,SqL.of (s6 _ _ f5)⟩,l5,mks c,ixc c,rfl,rfl,s6 _ _ f5',mk_ix hc,mk_no hc,by simp [mks],l6,w8,_,_,rfl,rfl,SqL.of f6,mk_word hc,q H6 (S5.trans s6)⟩⟩
theorem S_law_done : FnScope ["book","way","name","line","caught","told","e"] ["book","way","name","line"] (defScope (top 38)) := ⟨rfl,rfl,rfl,by decide +kernel,rfl,by decide +kernel,by decide +kernel⟩
theorem fn_law_done {cl : Nat → Addr} {L d0 d1 d2 d3 d4 d5 d6 d7 : Addr} (D_law_done : Df K mg "_law_done" (top 38)) (O_Book : OwnC K mg "Book" C_Book) (O_LeashError : ExcC K mg "LeashError" L) (wd : Wd K mg cl L [d0,d1,d2,d3,d4,d5,d6,d7]) (F_Book_put : Mt P w K mg base C_Book "put" ["self","name","corners"] 6 (spPut C_Book cl)) (F_Book_strike : Mt P w K mg base C_Book "strike" ["self","name"] 3 (spDeed C_Book cl 3)) (F_Book_turn : Mt P w K mg base C_Book "turn" ["self","name"] 4 (spDeed C_Book cl 4)) (F_Book_back : Mt P w K mg base C_Book "back" ["self"] 1 (spBack C_Book cl)) (F_law_word : Fn P w K mg base "_law_word" ["caught"] 1 (spWord cl)) (T : Txt mg) : Fn P w K mg base "_law_done" ["book","way","name","line"] 7 (spDone C_Book cl) := by
  refine D_law_done.fn S_law_done (fun _ _ _ _ _ _ us hl => match us,hl with | [_,_,_,_],_ => rfl) (fun vs H Q E h => ?_) (fun f cdv A outer s H vs Q E hr h => ?_)
  · obtain ⟨b,way,x,y,M,e,kept,past,lo,rfl,_⟩ := h
    rfl
  · obtain ⟨b,way,x,y,M,e,kept,past,lo,rfl,op,nm,lno,hw,q⟩ := h
    have HM : ∀ C,Cls5 cl C → PySem.W.exmOne K (.ref C) (.ref L) = some true := fun Z hZ => by
      obtain ⟨c,hc,rfl⟩ := hZ
      exact wd.m c hc
    have R : ∃ u : TS,PSs (cxOf CX0 P w K mg base ["book","way","name","line","caught","told","e"] "_law_done" (defScope (top 38)) f cdv A outer s H E).nox ((defBody (top 38)).drop 3) u ∧ ∀ (cv : V) (c : Nat) (z : Option V) (H' : Hp),((c = 0 ∧ cv = .non) ∨ ((1 ≤ c ∧ c ≤ 5) ∧ ∃ a,cv = .ref a ∧ H' a = some (excO (cl c) a))) → (∀ H2,Same H' H2 → Q (.str (wrd c)) H2) → u { nx := fun _ H' => Q .non H',rt := Q } [some (.ref b),some (.int (way : Int)),some x,some y,some cv,some .non,z] H' := by
      refine ⟨_,(pss_cons (ps_if (pt_cmpR op_notN (pv 5) pe_non (nomark _)) (pss_one (ps_ret pe_str)) pss_nil) (pss_cons (ps_if (pt_cmpR op_isN (pv 4) pe_non (nomark _)) (pss_one (ps_ret pe_str)) pss_nil) (pss_one (ps_ret (pe_fn F_law_word (hr.mono (by decide)) (by rfl) (pa_cons (pv 4) pa_nil)))))),fun cv c z H' hcv k => ?_⟩
      refine ⟨_,rfl,rfl,_,rfl,iteFalse (by decide) ?_⟩
      rcases hcv with ⟨rfl,rfl⟩ | ⟨hc,a,rfl,ha⟩
      · exact ⟨_,rfl,rfl,_,rfl,iteTrue (by decide) (k H' (Same.refl _))⟩
      · exact ⟨_,rfl,rfl,_,rfl,iteFalse (by simp) ⟨_,rfl,a,c,rfl,hc,ha,k⟩⟩
    obtain ⟨u,hu,hR⟩ := R
    have af : ∀ d,d = deed way x lo kept past → After M C_Book cl b e H (fun v H' => u { nx := fun _ H' => Q .non H',rt := Q } [some (.ref b),some (.int (way : Int)),some x,some y,some .non,some v,none] H') (fun c _ H' => ∃ C,c = .ref C ∧ Cls5 cl C ∧ ∀ e : Addr,H' e = none → u { nx := fun _ H' => Q .non H',rt := Q } [some (.ref b),some (.int (way : Int)),some x,some y,some (.ref e),some .non,none] (upd H' e (excO C e))) d := fun d hd => by
      subst hd
      refine ⟨fun h0 H' s' => ?_,fun h0 H' bt bk => hR .non 0 none H' (.inl ⟨rfl,rfl⟩) fun H2 s2 => ?_⟩
      · obtain ⟨h1,h2⟩ := deed_err h0
        refine ⟨_,rfl,⟨_,h1,rfl⟩,fun a ha => hR (.ref a) _ none _ (.inr ⟨h1,a,rfl,upd_same⟩) fun H2 s2 => ?_⟩
        have s3 : Same H H2 := s'.trans ((Same.new ha).trans s2)
        refine q H2 (.of s3) ?_
        rw [h2]
        exact op.bk.mono s3
      · have z := q H2 (bt.trans (.of s2)) (bk.mono s2)
        rw [h0] at z
        exact z
    obtain ⟨dx,k,hb,bo,pa⟩ := op.bk.ex
    refine ⟨_,(pss_cons (ps_set (i := 4) S_law_done.nd rfl (Or.inl rfl) pe_non) (pss_cons (ps_set (i := 5) S_law_done.nd rfl (Or.inl rfl) pe_non) (pss_cons (ps_try_asM (i := 6) rfl rfl (pxs_one (px_if (pt_cmpR op_lt (pv 1) pe_int (nomark _)) (pxs_one (px_setM (i := 5) S_law_done.nd rfl (Or.inl rfl) O_Book F_Book_put (hr.mono (by decide)) (pv 0) (pa_cons (pv 2) (pa_cons (pv 3) pa_nil)))) (pxs_one (px_if (pt_cmpR op_eq (pv 1) pe_int (nomark _)) (pxs_one (px_setM (i := 5) S_law_done.nd rfl (Or.inl rfl) O_Book F_Book_strike (hr.mono (by decide)) (pv 0) (pa_cons (pv 2) pa_nil))) (pxs_one (px_if (pt_cmpR op_eq (pv 1) pe_int (nomark _)) (pxs_one (px_setM (i := 5) S_law_done.nd rfl (Or.inl rfl) O_Book F_Book_turn (hr.mono (by decide)) (pv 0) (pa_cons (pv 2) pa_nil))) (pxs_one (px_setM0 (i := 5) S_law_done.nd rfl (Or.inl rfl) O_Book F_Book_back (hr.mono (by decide)) (pv 0))))))))) O_LeashError (by rfl) (HM) rfl S_law_done.nd rfl rfl (fun e => (pss_one (ps_set (i := 4) S_law_done.nd rfl (Or.inl rfl) (pv 6))))) hu))),?_⟩
    refine ⟨_,rfl,_,_,rfl,rfl,_,rfl,ite3 (fun h1 => ?_) (fun h1 => ?_)⟩
    · have h1' : way < 3 := by
        have : (way : Int) < 3 := by simpa using h1
        omega
      exact ⟨_,rfl,b,dx,_,rfl,hb,rfl,_,rfl,_,rfl,b,x,y,M,e,kept,past,lo,rfl,op,nm,lno,(af _ (deed_lt h1').symm).imp fun _ _ _ ⟨Z,z1,z2,z3⟩ => ⟨Z,z1,z2,fun e' he' => ⟨_,rfl,z3 e' he'⟩⟩⟩
    · have h1' : ¬ way < 3 := by
        have : ¬ (way : Int) < 3 := by simpa using h1
        omega
      refine ⟨_,rfl,rfl,_,rfl,ite3 (fun h2 => ?_) (fun h2 => ?_)⟩
      · have h2' : way = 3 := by
          have : (way : Int) = 3 := by simpa using h2
          omega
        subst h2'
        exact ⟨_,rfl,b,dx,_,rfl,hb,rfl,_,rfl,b,x,M,e,kept,past,rfl,op,nm,(af _ (deed_lo (.inl rfl)).symm).imp fun _ _ _ ⟨Z,z1,z2,z3⟩ => ⟨Z,z1,z2,fun e' he' => ⟨_,rfl,z3 e' he'⟩⟩⟩
      · refine ⟨_,rfl,rfl,_,rfl,ite3 (fun h3 => ?_) (fun h3 => ?_)⟩
        · have h3' : way = 4 := by
            have : (way : Int) = 4 := by simpa using h3
            omega
          subst h3'
          exact ⟨_,rfl,b,dx,_,rfl,hb,rfl,_,rfl,b,x,M,e,kept,past,rfl,op,nm,(af _ (deed_lo (.inr rfl)).symm).imp fun _ _ _ ⟨Z,z1,z2,z3⟩ => ⟨Z,z1,z2,fun e' he' => ⟨_,rfl,z3 e' he'⟩⟩⟩
        · have h3' : way = 5 := by
            have a : ¬ (way : Int) = 3 := by simpa using h2
            have b : ¬ (way : Int) = 4 := by simpa using h3
            omega
          subst h3'
          exact ⟨_,rfl,b,dx,_,rfl,hb,rfl,b,M,e,kept,past,rfl,op,(af _ deed_bk.symm).imp fun _ _ _ ⟨Z,z1,z2,z3⟩ => ⟨Z,z1,z2,fun e' he' => ⟨_,rfl,z3 e' he'⟩⟩⟩
inductive LnT (H : Hp) : V → Option Cs → Prop where
  | ok {p : Addr} {qs : Crn} (L : LineS H p qs) (h : qs.length ≤ 4) : LnT H (.ref p) (some (qs.map (·.2)))
  | non : LnT H .non none
  | tup {p : Addr} {xs : List V} (e : H p = some (.tup xs)) : LnT H (.ref p) none
  | len {p : Addr} {xs : List V} (e : H p = some (.lst xs)) (h : xs.length = 0 ∨ 11 ≤ xs.length) (h2 : xs.length ≤ 100) (th : ∀ y ∈ xs,∃ t a b,y = .ref t ∧ H t = some (.tup [.int a,.int b])) : LnT H (.ref p) none
  | one {p t : Addr} {ys : List V} (e : H p = some (.lst [.ref t])) (e2 : H t = some (.tup ys)) (h : ys = [.int 0] ∨ ys = [.int 0,.int 1000000000000]) : LnT H (.ref p) none
theorem LnT.mono {H H' : Hp} {y : V} {lo : Option Cs} (h : LnT H y lo) (s : Same H H') : LnT H' y lo := by
  cases h with
  | ok L h => exact .ok (L.mono s) h
  | non => exact .non
  | tup e => exact .tup (s _ _ e)
  | len e h h2 th => exact .len (s _ _ e) h h2 fun y hy => let ⟨t,a,b,z,f⟩ := th y hy; ⟨t,a,b,z,s _ _ f⟩
  | one e e2 h => exact .one (s _ _ e) (s _ _ e2) h
theorem one_th {H : Hp} {t : Addr} {ys : List V} (e2 : H t = some (.tup ys)) (h : ys = [.int 0] ∨ ys = [.int 0,.int 1000000000000]) : Thing H (.ref t) := th_tup e2 fun v hv => by
  rcases h with rfl | rfl
  · simp only [List.mem_cons,List.not_mem_nil,or_false] at hv
    rw [hv]; exact ⟨_,.int _⟩
  · simp only [List.mem_cons,List.not_mem_nil,or_false] at hv
    rcases hv with rfl | rfl <;> exact ⟨_,.int _⟩
theorem LnT.o {H : Hp} {y : V} {lo : Option Cs} (h : LnT H y lo) : LnO H y lo := by
  cases h with
  | ok L h => exact ⟨_,_,rfl,L,rfl⟩
  | non => exact ⟨lth_flat .non (fun p z => nomatch z),rfl⟩
  | tup e => exact ⟨lth_tup e,by simp only [lineV,e]⟩
  | len e h h2 th =>
    refine ⟨lth_lst e h2 fun y hy => let ⟨t,a,b,z,f⟩ := th y hy; z ▸ th_two f ⟨_,.int _⟩ ⟨_,.int _⟩,?_⟩
    rw [lineV_lst e]
    unfold lineL
    rcases h with h | h
    · rw [h]; rfl
    · rw [decide_eq_false (by omega : ¬ (_ : Int) ≤ 10),Bool.and_false,Bool.false_and]
  | @one p t ys e e2 h =>
    refine ⟨lth_lst e (by simp) fun y hy => ?_,bad_line e (List.mem_singleton.mpr rfl) ?_⟩
    · rw [List.mem_singleton.mp hy]; exact one_th e2 h
    · rw [cornV_tup e2]
      rcases h with rfl | rfl <;> rfl
def onV (H : Hp) (v : V) : Bool := match v with
  | .ref t => (match H t with
    | some (.tup [_,.int b]) => decide (b < 10 ^ 12)
    | _ => false)
  | _ => false
theorem LnT.lst {H : Hp} {p : Addr} {lo : Option Cs} {xs : List V} (h : LnT H (.ref p) lo) (e : H p = some (.lst xs)) : lo.isSome = ((decide (0 < (xs.length : Int)) && decide ((xs.length : Int) < 5)) && xs.all (onV H)) ∧ xs.length ≤ 100 ∧
    (xs.length < 5 → ∀ v ∈ xs,∃ t,v = .ref t ∧ ((∃ a,H t = some (.tup [.int a])) ∨ ∃ a b,H t = some (.tup [.int a,.int b]))) := by
  cases h with
  | @ok p qs L h =>
    rw [L.at_.lst] at e
    cases e
    have hl := L.len
    refine ⟨?_,by rw [List.length_map]; omega,fun _ v hv => ?_⟩
    · rw [List.length_map,decide_eq_true (by omega : 0 < (qs.length : Int)),decide_eq_true (by omega : (qs.length : Int) < 5)]
      refine (List.all_eq_true.mpr fun v hv => ?_).symm
      obtain ⟨q,hq,rfl⟩ := List.mem_map.mp hv
      simp only [onV,(L.at_.crn q hq).1]
      have := (L.sml q hq).2.2
      unfold larg at this
      exact decide_eq_true (by omega)
    · obtain ⟨q,hq,rfl⟩ := List.mem_map.mp hv
      exact ⟨q.1,rfl,.inr ⟨_,_,(L.at_.crn q hq).1⟩⟩
  | tup e' => rw [e'] at e; cases e
  | len e' h h2 th =>
    rw [e'] at e
    cases e
    refine ⟨?_,h2,fun hl v hv => ?_⟩
    · rcases h with h | h
      · rw [h]; rfl
      · rw [decide_eq_false (by omega : ¬ (_ : Int) < 5),Bool.and_false,Bool.false_and]; rfl
    · rcases h with h | h
      · rw [List.eq_nil_of_length_eq_zero h] at hv; cases hv
      · omega
  | @one p t ys e' e2 h =>
    rw [e'] at e
    cases e
    refine ⟨?_,by simp,fun _ v hv => ⟨t,List.mem_singleton.mp hv,?_⟩⟩
    · have : onV H (.ref t) = false := by
        simp only [onV,e2]
        rcases h with rfl | rfl <;> rfl
      simp [this]
    · rcases h with rfl | rfl
      · exact .inl ⟨_,e2⟩
      · exact .inr ⟨_,_,e2⟩
inductive spIsL (vs : List V) (H : Hp) (Q : VK) (x_3 : XK) : Prop
  | mk : ∀ (y : V) (lo : Option Cs),(vs = [y]) → (LnT H y lo) → (∀ H',Same H H' → Q (.bl lo.isSome) H') → spIsL vs H Q x_3
def dC (c : Int × Int) : D := .tup [.int c.1,.int c.2]
def dL (cs : Cs) : D := .lst (cs.map dC)
def dE (r : Str × Cs) : D := .tup [.str r.1,dL r.2]
def dB (k : Bk) : D := .lst (k.map dE)
def dP (ps : List Bk) : D := .lst (ps.map dB)
theorem rp_rows {β : Type} {H : Hp} {n : Nat} {p : Addr} {f : β → D} {rs : List (Addr × β)} (e : H p = some (.lst (rs.map fun r => V.ref r.1))) (h : ∀ r ∈ rs,Rp H n (.ref r.1) (f r.2)) : Rp H (n + 1) (.ref p) (.lst ((rs.map (·.2)).map f)) := by
  refine .lst e (by simp) fun j x d hx hd => ?_
  rw [List.getElem?_map] at hx
  obtain ⟨r,hr,rfl⟩ := Option.map_eq_some_iff.mp hx
  rw [List.getElem?_map,List.getElem?_map,hr] at hd
  cases hd
  exact h r (List.mem_of_getElem? hr)
theorem qs_rp {H : Hp} {p : Addr} {n : Nat} {qs : Crn} (e : H p = some (.lst (qs.map fun q => V.ref q.1))) (h : ∀ q ∈ qs,H q.1 = some (.tup [.int q.2.1,.int q.2.2])) : Rp H (n + 2) (.ref p) (dL (qs.map (·.2))) :=
  rp_rows (f := dC) e fun q hq => Rp.t2 (h q hq) .int .int
theorem Ln.rp {M : List Addr} {H : Hp} {p : Addr} {cs : Cs} {n : Nat} (L : Ln M H p cs) : Rp H (n + 2) (.ref p) (dL cs) := by
  obtain ⟨qs,rfl,_,h3,h4⟩ := L.ex
  exact qs_rp h3 fun q hq => (h4 q hq).2
theorem Bo.rp {M : List Addr} {H : Hp} {k : Addr} {es : Bk} {n : Nat} (L : Bo M H k es) : Rp H (n + 4) (.ref k) (dB es) := by
  obtain ⟨rs,rfl,_,h3,h4⟩ := L.ex
  refine rp_rows (f := dE) h3 fun r hr => ?_
  obtain ⟨_,l,h5,h6⟩ := h4 r hr
  exact Rp.t2 h5 .str h6.rp
theorem Pa.rp {M : List Addr} {H : Hp} {e : Addr} {ps : List Bk} {n : Nat} (L : Pa M H e ps) : Rp H (n + 5) (.ref e) (dP ps) := by
  obtain ⟨ks,rfl,h3,h4⟩ := L.ex
  exact rp_rows (f := dB) h3 fun r hr => (h4 r hr).rp
theorem nms_rp {H : Hp} {l : Addr} {n : Nat} {kept : Bk} (e : H l = some (.lst (kept.map fun r => V.str r.1))) : Rp H (n + 1) (.ref l) (.lst (kept.map fun r => D.str r.1)) := by
  refine .lst e (by simp) fun j x d hx hd => ?_
  rw [List.getElem?_map] at hx hd
  obtain ⟨r,hr,rfl⟩ := Option.map_eq_some_iff.mp hx
  rw [hr] at hd
  cases hd
  exact .str
theorem deq_nil (ps : List Bk) : deq (dP ps) (.lst []) = decide (ps = []) := by
  cases ps with
  | nil => rfl
  | cons a r =>
    have : deqs (List.map dB (a :: r)) [] = false := deqs_len (by simp)
    show deqs (List.map dB (a :: r)) [] = _
    rw [this]
    simp
theorem Bo.sq {K : PySem.W.Frag} {M : List Addr} {H : Hp} {k : Addr} {es : Bk} (L : Bo M H k es) : ∃ xs,SqL K H k xs := by
  obtain ⟨rs,_,_,h3,_⟩ := L.ex
  exact ⟨_,SqL.of h3⟩
theorem comp_nms {K : PySem.W.Frag} {M : List Addr} {a : Addr} {kept : Bk} {fv : List (Str × Nat)} {te : TE} {σ : St} {H1 : Hp} {Q : VK} (bo : Bo M H1 a kept) (hz : kept.length ≤ 100)
    (hs : ∀ (r : Addr) (n : Str) (l : Addr) (H2 : Hp) (Kc : VK),H2 r = some (.tup [.str n,.ref l]) → Kc (.str n) H2 → te (some (.ref r) :: fvs fv σ) H2 Kc)
    (hd : ∀ l H',H1 l = none → Same H1 H' → H' l = some (.lst (kept.map fun r => V.str r.1)) → Q (.ref l) H') : CompAt (Itl K a) fv te σ H1 Q := by
  obtain ⟨rs,er,nk,hk,hr'⟩ := bo.ex
  have hn : rs.length = kept.length := by rw [← er,List.length_map]
  refine comp_R (SqL.of hk) (by rw [List.length_map]; omega) (fun i v _ => ∀ r,rs[i]? = some r → v = .str r.2.1) (fun _ _ _ _ _ h => h) (fun i x H2 Kc hx s2 kk => ?_) (fun l ys H' hl s' e' hn' hy => ?_)
  · rw [List.getElem?_map] at hx
    obtain ⟨r,hr1,rfl⟩ := Option.map_eq_some_iff.mp hx
    obtain ⟨n1,ln,ht,_⟩ := hr' r (List.mem_of_getElem? hr1)
    exact hs r.1 r.2.1 ln H2 Kc (s2 _ _ ht) (kk _ _ (Same.refl _) fun r' h' => by rw [hr1] at h'; cases h'; rfl)
  · refine hd l H' hl s' ?_
    rw [e',← er,List.map_map]
    refine congrArg (fun z => some (HO.lst z)) (List.ext_getElem? fun i => ?_)
    rw [List.getElem?_map]
    rw [List.length_map] at hn'
    cases hc : rs[i]? with
    | none =>
      rw [List.getElem?_eq_none (by rw [hn']; exact List.getElem?_eq_none_iff.mp hc)]
      rfl
    | some r =>
      have hi : i < ys.length := by rw [hn']; exact (List.getElem?_eq_some_iff.mp hc).1
      rw [List.getElem?_eq_getElem hi,hy i _ (List.getElem?_eq_getElem hi) r hc]
      rfl
theorem Kn.str_or {H : Hp} {x : V} {t : String} (k : Kn H x t) : (∃ z,x = .str z ∧ t = "str") ∨ (isSub t "str" = false ∧ nmV x = false) := by
  cases k with
  | str z => exact .inl ⟨z,rfl,rfl⟩
  | _ => exact .inr ⟨by decide,rfl⟩
theorem at2 (a b : V) (k : Bool) : atI [a,b] (if k = true then 1 else 0) = some (if k = true then b else a) := by cases k <;> rfl
theorem fnd_none {kept : Bk} {n : Str} : fnd kept n = none ↔ n ∉ kept.map (·.1) := by
  unfold fnd
  rw [Option.map_eq_none_iff,List.find?_eq_none]
  simp only [decide_eq_true_eq,List.mem_map,not_exists,not_and]
  exact ⟨fun h r hr e => h r hr (by rw [e]),fun h r hr e => h r hr (by cases e; rfl)⟩
theorem flat_strs (ws : List Str) : (ws.map V.str).all flatV = true := by
  rw [List.all_eq_true]
  intro v hv
  obtain ⟨r,_,rfl⟩ := List.mem_map.mp hv
  rfl
inductive spDue (vs : List V) (H : Hp) (Q : VK) (x_3 : XK) : Prop
  | mk : ∀ (kl pl : Addr) (way : Nat) (x y : V) (nl : Addr) (M : List Addr) (kept : Bk) (past : List Bk) (lo : Option Cs) (ws : List Str),(vs = [.ref kl,.ref pl,.int (way : Int),x,y,.ref nl]) → (Bo M H kl kept) → (Pa M H pl past) → (kept.length ≤ 6) → (Nm H x) → (LnT H y lo) → (H nl = some (.lst (ws.map V.str))) → ((∀ z,x = .str z → (z ∈ ws ↔ nameB z = true))) → (way ≤ 5) → (∀ H',Same H H' → Q (.str (wrd (deed way x lo kept past).1)) H') → spDue vs H Q x_3
theorem S_law_is_line : FnScope ["thing"] ["thing"] (defScope (top 35)) := ⟨rfl,rfl,rfl,by decide +kernel,rfl,by decide +kernel,by decide +kernel⟩
theorem fn_law_is_line (D_law_is_line : Df K mg "_law_is_line" (top 35)) (T : Txt mg) : Fn P w K mg base "_law_is_line" ["thing"] 1 spIsL := by
  refine D_law_is_line.fn S_law_is_line (fun _ _ _ _ _ _ us hl => match us,hl with | [_],_ => rfl) (fun vs H Q E h => ?_) (fun f cdv A outer s H vs Q E hr h => ?_)
  · obtain ⟨y,lo,rfl,_⟩ := h
    rfl
  · obtain ⟨y,lo,rfl,lt,q⟩ := h
    have CN : CompN (cxOf CX0 P w K mg base ["thing"] "_law_is_line" (defScope (top 35)) f cdv A outer s H E).nox (lcA (top 35) 0) [] "one" [] :=
      ⟨by rfl,rfl,by decide +kernel,by decide +kernel,rfl,(fun p hp => nomatch hp),by rfl,by decide +kernel,(fun p hp => nomatch hp),⟨rfl,rfl⟩,rfl⟩
    refine ⟨_,(pss_cons (ps_if (pw_or (pt_not (pt_val (pe_callB call_isinst (by rfl) T.z_isinstance bt_isinstance (pa_cons (pv 0) (pa_cons (pe_ty T.z_list bt_list) pa_nil))))) (pw_or1 (pt_not (pt_chain op_lt op_lt pe_int (pe_callB call_len_seq (by rfl) T.z_len bt_len (pa_cons (pv 0) pa_nil)) pe_int)))).pt (pss_one (ps_ret pe_bl)) pss_nil) (pss_one (ps_ret (pe_callB (call_all rfl) (by rfl) T.z_all bt_all (pa_cons (pe_compA rfl CN (pi_list (pv 0)) (fun fp s₀ H₀ => (pe_and (pe_cmpR op_eq (pe_callB (call_lenK (K := K) rfl) (by rfl) T.z_len bt_len (pa_cons (pv 0) pa_nil)) pe_int (nomark _)) (pe_one (pe_cmpR op_lt (pe_ix (ix_tupK (K := K) rfl) (pv 0) pe_int (fun _ _ => rfl)) (pe_op op_pow pe_int pe_int) (nomark _)))))) pa_nil))))),?_⟩
    have hk : ∃ t,Kn H y t := by
      obtain ⟨h,_⟩ | ⟨p,qs,rfl,h,_⟩ : (LTh H y ∧ lineV H y = false) ∨ ∃ p qs,y = .ref p ∧ LineS H p qs ∧ True := by
        cases lo with
        | none => exact .inl lt.o
        | some cs => obtain ⟨p,qs,h1,h2,_⟩ := lt.o; exact .inr ⟨p,qs,h1,h2,trivial⟩
      · exact h.kn
      · exact h.th.kn
    obtain ⟨t,k⟩ := hk
    refine ⟨_,rfl,y,t,"list",rfl,k,.inr (.inr (.inr (.inl rfl))),_,rfl,?_⟩
    have q0 := q H (Same.refl _)
    cases k with
    | @lst p xs e =>
      obtain ⟨h1,h2,h3⟩ := lt.lst e
      refine iteFalse (by decide) ?_
      rw [h1] at q q0
      refine ⟨_,rfl,p,xs,rfl,.inl (SqL.of e),_,_,rfl,rfl,_,rfl,ite3 (fun c1 => ?_) (fun c1 => ?_)⟩
      · rw [c1,Bool.true_and] at q q0
        refine ⟨_,_,rfl,rfl,_,rfl,ite3 (fun c2 => ?_) (fun c2 => ?_)⟩
        · rw [show decide ((xs.length : Int) < 5) = false by simpa using c2,Bool.false_and] at q0
          exact q0
        · have c2' : decide ((xs.length : Int) < 5) = true := by simpa using c2
          rw [c2',Bool.true_and] at q
          have hl : xs.length < 5 := by
            have := of_decide_eq_true c2'
            omega
          refine ⟨_,rfl,p,rfl,⟨_,SqL.of e⟩,comp_R (SqL.of e) (by omega) (fun i v _ => ∀ x,xs[i]? = some x → v = .bl (onV H x)) (fun _ _ _ _ _ h => h) (fun i x H2 Kc hx s2 kk => ?_) (fun l ys H' hl' s' e' hn hy => ?_)⟩
          · obtain ⟨t,rfl,⟨a,ht⟩ | ⟨a,b,ht⟩⟩ := h3 hl x (List.mem_of_getElem? hx)
            · refine ⟨_,rfl,t,_,rfl,.inr (SqT.of (s2 _ _ ht)),rfl,_,rfl,iteFalse (by simp) (kk _ _ (Same.refl _) fun x' hx' => ?_)⟩
              rw [hx] at hx'
              cases hx'
              simp only [onV,ht]
            · refine ⟨_,rfl,t,_,rfl,.inr (SqT.of (s2 _ _ ht)),rfl,_,rfl,iteTrue (by simp) ⟨_,rfl,t,_,_,_,rfl,rfl,SqT.of (s2 _ _ ht),rfl,_,_,rfl,rfl,⟨by decide,by decide,by decide⟩,_,_,rfl,rfl,kk _ _ (Same.refl _) fun x' hx' => ?_⟩⟩
              rw [hx] at hx'
              cases hx'
              simp only [onV,ht]
              rfl
          · have ey : ys = (xs.map (onV H)).map V.bl := by
              refine List.ext_getElem? fun i => ?_
              rw [List.getElem?_map,List.getElem?_map]
              cases hc : xs[i]? with
              | none =>
                rw [List.getElem?_eq_none (by rw [hn]; exact List.getElem?_eq_none_iff.mp hc)]
                rfl
              | some c =>
                have hi : i < ys.length := by rw [hn]; exact (List.getElem?_eq_some_iff.mp hc).1
                rw [List.getElem?_eq_getElem hi,hy i _ (List.getElem?_eq_getElem hi) c hc]
                rfl
            rw [ey] at e'
            refine ⟨l,_,rfl,SqL.of e',?_⟩
            have e2 : xs.all (onV H) = (xs.map (onV H)).all id := by rw [List.all_map]; rfl
            rw [← e2]
            exact q H' s'
      · rw [show decide (0 < (xs.length : Int)) = false from c1,Bool.false_and,Bool.false_and] at q0
        exact ⟨_,rfl,iteT q0⟩
    | tup e =>
      cases lt with
      | ok L h => rw [L.at_.lst] at e; cases e
      | tup _ => exact iteT q0
      | len e' _ _ _ => rw [e'] at e; cases e
      | one e' _ _ => rw [e'] at e; cases e
    | non => cases lt; exact iteT q0
    | bl b => cases lt
    | int i => cases lt
    | str z => cases lt
    | dict e =>
      cases lt with
      | ok L h => rw [L.at_.lst] at e; cases e
      | tup e' => rw [e'] at e; cases e
      | len e' _ _ _ => rw [e'] at e; cases e
      | one e' _ _ => rw [e'] at e; cases e
theorem S_law_due : FnScope ["kept","past","way","name","line","names","here"] ["kept","past","way","name","line","names"] (defScope (top 36)) := ⟨rfl,rfl,rfl,by decide +kernel,rfl,by decide +kernel,by decide +kernel⟩
theorem fn_law_due (D_law_due : Df K mg "_law_due" (top 36)) (F_law_is_line : Fn P w K mg base "_law_is_line" ["thing"] 1 spIsL) (T : Txt mg) : Fn P w K mg base "_law_due" ["kept","past","way","name","line","names"] 2 spDue := by
  refine D_law_due.fn S_law_due (fun _ _ _ _ _ _ us hl => match us,hl with | [_,_,_,_,_,_],_ => rfl) (fun vs H Q E h => ?_) (fun f cdv A outer s H vs Q E hr h => ?_)
  · obtain ⟨kl,pl,way,x,y,nl,M,kept,past,lo,ws,rfl,_⟩ := h
    rfl
  · obtain ⟨kl,pl,way,x,y,nl,M,kept,past,lo,ws,rfl,bo,pa,hz,nm,lt,hw,iff,h5,q⟩ := h
    have CN : CompN (cxOf CX0 P w K mg base ["kept","past","way","name","line","names","here"] "_law_due" (defScope (top 36)) f cdv A outer s H E).nox (lcA (top 36) 0) [] "row" [] :=
      ⟨by rfl,rfl,by decide +kernel,by decide +kernel,rfl,(fun p hp => nomatch hp),by rfl,by decide +kernel,(fun p hp => nomatch hp),⟨rfl,rfl⟩,rfl⟩
    refine ⟨_,(pss_cons (ps_setCompA (j := 6) rfl CN S_law_due.nd rfl rfl (pi_list (pv 0)) (fun fp s₀ H₀ => (pe_ix (ix_tupK (K := K) rfl) (pv 0) pe_int (fun _ _ => rfl)))) (pss_cons (ps_if (pt_cmpR op_eq (pv 2) pe_int (nomark _)) (pss_one (ps_ret (pe_ix ix_list (pe_lstA (pa_cons pe_str (pa_cons pe_str pa_nil))) (pe_callTy call_int1 (by rfl) T.z_int bt_int (pa_cons (pe_cmpR (op_eqD hr.units10) (pv 1) (pe_lstA pa_nil) (nomark _)) pa_nil)) (fun _ _ => rfl)))) pss_nil) (pss_cons (ps_if (pw_or (pt_not (pt_val (pe_callB call_isinst (by rfl) T.z_isinstance bt_isinstance (pa_cons (pv 3) (pa_cons (pe_ty T.z_str bt_str) pa_nil))))) (pw_or1 (pt_cmpR op_notIn_seq (pv 3) (pv 5) (by rfl)))).pt (pss_one (ps_ret pe_str)) pss_nil) (pss_cons (ps_if (pt_cmpR op_lt (pv 2) pe_int (nomark _)) (pss_cons (ps_if (pt_cmpR op_in_seq (pv 3) (pv 6) (by rfl)) (pss_one (ps_ret pe_str)) pss_nil) (pss_cons (ps_if (pt_not (pt_val (pe_fn F_law_is_line (hr.mono (by decide)) (by rfl) (pa_cons (pv 4) pa_nil)))) (pss_one (ps_ret pe_str)) pss_nil) (pss_one (ps_ret (pe_ix ix_list (pe_lstA (pa_cons pe_str (pa_cons pe_str pa_nil))) (pe_callTy call_int1 (by rfl) T.z_int bt_int (pa_cons (pe_cmpR op_eq (pe_callB call_len_seq (by rfl) T.z_len bt_len (pa_cons (pv 0) pa_nil)) pe_int (nomark _)) pa_nil)) (fun _ _ => rfl)))))) pss_nil) (pss_one (ps_ret (pe_ix ix_list (pe_lstA (pa_cons pe_str (pa_cons pe_str pa_nil))) (pe_callTy call_int1 (by rfl) T.z_int bt_int (pa_cons (pe_cmpR op_notIn_seq (pv 3) (pv 6) (by rfl)) pa_nil)) (fun _ _ => rfl)))))))),?_⟩
    refine ⟨_,rfl,kl,rfl,bo.sq,comp_nms bo (by omega) (fun r n l H2 Kc ht k => ⟨_,rfl,r,_,_,_,rfl,rfl,SqT.of ht,rfl,k⟩) (fun l1 H1 n1 s1 f1 => ?_)⟩
    refine ⟨_,rfl,rfl,_,rfl,ite3 (fun h1 => ?_) (fun h1 => ?_)⟩
    · have h1' : way = 5 := by
        have : (way : Int) = 5 := by simpa using h1
        omega
      subst h1'
      refine ⟨sz (by simp),fun l2 H2 s2 f2 n2 => ⟨_,rfl,sz (by simp),fun l3 H3 s3 f3 n3 => ⟨dP past,.lst [],(pa.go (N := []) (.of (s1.trans (s2.trans s3))) (by simp) (by simp)).rp,Rp.l0 f3,.inr ⟨_,rfl,l2,_,_,.str (wrd (deed 5 x lo kept past).1),rfl,rfl,SqL.of (s3 _ _ f2),?_,q H3 (s1.trans (s2.trans s3))⟩⟩⟩⟩
      show atI _ (if deq (dP past) (.lst []) = true then 1 else 0) = _
      rw [deq_nil,at2]
      rcases List.eq_nil_or_concat past with rfl | ⟨ps,p,rfl⟩
      · rfl
      · have : deed 5 x lo kept (ps.concat p) = (0,p,ps) := by
          unfold deed
          rw [if_pos rfl]
          simp
        rw [this,if_neg (by simp)]
        rfl
    · have h1' : way ≠ 5 := fun z => by
        subst z
        exact absurd h1 (by decide)
      obtain ⟨t,k⟩ := nm.kn
      refine ⟨_,rfl,x,t,"str",rfl,k.mono s1,.inr (.inr (.inr (.inr rfl))),_,rfl,?_⟩
      rcases Kn.str_or k with ⟨z,rfl,rfl⟩ | ⟨hs,hx⟩
      · refine iteFalse (by decide) ?_
        refine ⟨_,rfl,_,rfl,nl,_,rfl,.inl (SqL.of (s1 _ _ hw)),rfl,flat_strs ws,_,rfl,ite3 (fun h2 => ?_) (fun h2 => ?_)⟩
        · rw [if_pos rfl,inV_strs] at h2
          have hn : nmV (.str z) = false := by
            show nameB z = false
            rw [Bool.eq_false_iff]
            intro e
            have := (iff z rfl).mpr e
            simp [this] at h2
          rw [deed_bad h1' hn] at q
          exact q H1 s1
        · rw [if_pos rfl,inV_strs] at h2
          have hn : nameB z = true := (iff z rfl).mp (by simpa using h2)
          refine ⟨_,rfl,_,_,rfl,rfl,_,rfl,ite3 (fun h3 => ?_) (fun h3 => ?_)⟩
          · have h3' : way < 3 := by
              have : (way : Int) < 3 := by simpa using h3
              omega
            rw [deed_put h3' hn] at q
            refine ⟨_,rfl,_,rfl,l1,_,rfl,.inl (SqL.of f1),rfl,flat_nms kept,_,rfl,ite3 (fun h4 => ?_) (fun h4 => ?_)⟩
            · rw [if_neg (by decide),inV_nms] at h4
              rw [if_pos (by simpa using h4)] at q
              exact q H1 s1
            · rw [if_neg (by decide),inV_nms] at h4
              rw [if_neg (by simpa using h4)] at q
              refine ⟨_,rfl,y,lo,rfl,lt.mono s1,fun H2 s2 => ⟨_,rfl,?_⟩⟩
              cases lo with
              | none => exact iteTrue (by decide) (q H2 (s1.trans s2))
              | some cs =>
                refine iteFalse (by simp) ?_
                obtain ⟨rs,er,nk,hk,hr'⟩ := bo.ex
                have hl : (rs.map fun r => V.ref r.1).length = kept.length := by rw [List.length_map,← er,List.length_map]
                refine ⟨sz (by simp),fun l3 H3 s3 f3 n3 => ⟨_,rfl,kl,_,rfl,.inl (SqL.of (s3 _ _ (s2 _ _ (s1 _ _ hk)))),rfl,.inr ⟨_,rfl,l3,_,_,_,rfl,rfl,SqL.of f3,?_,q H3 (s1.trans (s2.trans s3))⟩⟩⟩
                rw [at2,hl]
                by_cases h6 : kept.length = 6
                · rw [if_pos (by rw [h6]; decide)]
                  dsimp only
                  rw [if_pos (by omega)]
                  rfl
                · rw [if_neg (by simp; omega)]
                  dsimp only
                  rw [if_neg (by omega)]
                  rfl
          · have h3' : way = 3 ∨ way = 4 := by
              have : ¬ (way : Int) < 3 := by simpa using h3
              omega
            refine ⟨sz (by simp),fun l3 H3 s3 f3 n3 => ⟨_,rfl,_,rfl,l1,_,rfl,.inl (SqL.of (s3 _ _ f1)),rfl,flat_nms kept,.inr ⟨_,rfl,l3,_,_,_,rfl,rfl,SqL.of f3,?_,q H3 (s1.trans s3)⟩⟩⟩
            rw [at2,if_pos rfl,inV_nms]
            cases hf : fnd kept z with
            | none =>
              have := fnd_none.mp hf
              rw [deed_none h3' (by unfold atN; dsimp only; rw [hn,if_neg (by decide),hf]),if_pos (by simpa using this)]
              rfl
            | some cs =>
              have : z ∈ kept.map (·.1) := by
                refine Classical.byContradiction fun h => ?_
                rw [fnd_none.mpr h] at hf
                cases hf
              rw [deed_some h3' hn hf,if_neg (by simpa using this)]
              rfl
      · rw [hs]
        rw [deed_bad h1' hx] at q
        exact iteT (q H1 s1)
theorem comp_RL {K : PySem.W.Frag} {a : Addr} {xs : List V} {fv : List (Str × Nat)} {te : TE} {σ : St} {H1 : Hp} {Q : VK} (hL : SqL K H1 a xs) (hlen : xs.length < 1000) (R : Addr → Nat → V → Hp → Prop) (hR : ∀ l i v H H',But [l] H H' → R l i v H → R l i v H')
    (hs : ∀ l i x H2 (Kc : VK),H1 l = none → H2 l ≠ none → xs[i]? = some x → Same H1 H2 → (∀ y H4,Same H2 H4 → R l i y H4 → Kc y H4) → te (some x :: fvs fv σ) H2 Kc)
    (hd : ∀ l ys H',H1 l = none → Same H1 H' → H' l = some (.lst ys) → ys.length = xs.length → (∀ i y,ys[i]? = some y → R l i y H') → Q (.ref l) H') :
    CompAt (Itl K a) fv te σ H1 Q := by
  intro l hl
  refine comp_list (K := K) (a := a) (xs := xs) (l := l) (fv := fv) (Qp := fun H2 => Q (.ref l) H2) (fun i acc H2 => acc.length = i ∧ Same H1 H2 ∧ H2 l = some (.lst acc) ∧ ∀ j y,acc[j]? = some y → R l j y H2)
    ⟨rfl,Same.new hl,upd_same,fun j y h => by simp at h⟩ ?_ ?_ ?_
  · rintro i acc H2 hi ⟨e1,sm,e3,_⟩
    exact ⟨sm.seq hL,e3,small1000 (by omega)⟩
  · rintro i x acc H2 Kc hx ⟨e1,sm,e3,hr⟩ kk
    refine hs l i x H2 Kc hl (by rw [e3]; simp) hx sm fun y H4 s4 ry => kk y H4 (s4 _ _ e3) ⟨by simp [e1],(sm.trans s4).upd hl,upd_same,fun j z hz => ?_⟩
    have t4 : But [l] H4 (upd H4 l (.lst (acc ++ [y]))) := But.put (by simp)
    rcases Nat.lt_trichotomy j acc.length with h | h | h
    · rw [List.getElem?_append_left h] at hz
      exact hR _ _ _ _ _ ((But.of s4).trans t4) (hr j z hz)
    · subst h
      rw [List.getElem?_append_right (Nat.le_refl _),Nat.sub_self] at hz
      cases hz
      rw [e1]
      exact hR _ _ _ _ _ t4 ry
    · rw [List.getElem?_eq_none (by simp; omega)] at hz
      cases hz
  · rintro acc H2 ⟨e1,sm,e3,hr⟩
    exact hd l acc H2 hl sm e3 e1 hr
theorem at0 {α : Type} (a : α) (r : List α) : atI (a :: r) 0 = some a := by
  unfold atI ixN
  rw [if_pos (by decide),if_pos (by simp only [List.length_cons]; omega)]
  rfl
theorem ne_live {H2 : Hp} {l t : Addr} (h : H2 l ≠ none) (n : H2 t = none) : t ≠ l := fun z => h (by rw [← z]; exact n)
theorem still {H H' : Hp} {l : Addr} (s : Same H H') (h : H l ≠ none) : H' l ≠ none := by
  cases e : H l with
  | none => exact absurd e h
  | some o => rw [s _ _ e]; simp
theorem at_last {α : Type} {xs : List α} {b : α} (h : xs.getLast? = some b) : atI xs (-1) = some b := by
  have hn : xs ≠ [] := fun z => by rw [z] at h; cases h
  have hl : 0 < xs.length := List.length_pos_iff.mpr hn
  unfold atI ixN
  rw [if_neg (by omega),if_pos (by omega)]
  show xs[((xs.length : Int) + -1).toNat]? = some b
  rw [List.getLast?_eq_getElem?] at h
  rw [← h]
  congr 1
  omega
theorem deed_put0 {way : Nat} {x : V} {lo : Option Cs} {kept : Bk} {past : List Bk} (hw : way < 3) (h : (deed way x lo kept past).1 = 0) : ∃ n cs,x = .str n ∧ lo = some cs ∧ nameB n = true ∧ n ∉ kept.map (·.1) ∧ kept.length < 6 ∧ deed way x lo kept past = (0,kept ++ [(n,cs)],past ++ [kept]) := by
  generalize hr : deed way x lo kept past = r at h
  unfold deed at hr
  rw [if_neg (by omega)] at hr
  split at hr
  · rename_i n
    cases hn : nameB n with
    | false => rw [hn,if_pos rfl] at hr; subst hr; cases h
    | true =>
      rw [hn,if_neg (by decide),if_pos hw] at hr
      by_cases hm : n ∈ kept.map (·.1)
      · rw [if_pos hm] at hr; subst hr; cases h
      · rw [if_neg hm] at hr
        cases lo with
        | none => subst hr; cases h
        | some cs =>
          dsimp only at hr
          by_cases h6 : 6 ≤ kept.length
          · rw [if_pos h6] at hr; subst hr; cases h
          · rw [if_neg h6] at hr
            exact ⟨n,cs,rfl,rfl,hn,hm,by omega,hr.symm⟩
  · subst hr; cases h
theorem deed_340 {way : Nat} {x : V} {lo : Option Cs} {kept : Bk} {past : List Bk} (hw : way = 3 ∨ way = 4) (h : (deed way x lo kept past).1 = 0) : ∃ n cs,x = .str n ∧ nameB n = true ∧ fnd kept n = some cs ∧ deed way x lo kept past = (0,if way = 3 then strk kept n else trn kept n,past ++ [kept]) := by
  cases ha : atN x kept with
  | none => rw [deed_none hw ha] at h; cases h
  | some cs =>
    obtain ⟨n,rfl,hn,hf⟩ := atN_str ha
    exact ⟨n,cs,rfl,hn,hf,deed_some hw hn hf⟩
theorem deed_50 {x : V} {lo : Option Cs} {kept : Bk} {past : List Bk} (h : (deed 5 x lo kept past).1 = 0) : ∃ ps p,past = ps ++ [p] ∧ deed 5 x lo kept past = (0,p,ps) := by
  rcases List.eq_nil_or_concat past with rfl | ⟨ps,p,rfl⟩
  · cases h
  · refine ⟨ps,p,by simp,?_⟩
    unfold deed
    rw [if_pos rfl]
    simp
inductive spBeh (vs : List V) (H : Hp) (Q : VK) (x_3 : XK) : Prop
  | mk : ∀ (kl pl : Addr) (way : Nat) (x y : V) (M : List Addr) (kept : Bk) (past : List Bk) (lo : Option Cs),(vs = [.ref kl,.ref pl,.int (way : Int),x,y]) → (Live M H) → (Bo M H kl kept) → (Pa M H pl past) → (kept.length ≤ 6) → (LnT H y lo) → (way ≤ 5) → ((deed way x lo kept past).1 = 0) → (∀ (k' : Addr) (H' : Hp),Same H H' → Bo M H' k' (deed way x lo kept past).2.1 → Q (.ref k') H') → spBeh vs H Q x_3
theorem S_law_behind : FnScope ["kept","past","way","name","line"] ["kept","past","way","name","line"] (defScope (top 37)) := ⟨rfl,rfl,rfl,by decide +kernel,rfl,by decide +kernel,by decide +kernel⟩
theorem fn_law_behind (D_law_behind : Df K mg "_law_behind" (top 37)) (T : Txt mg) : Fn P w K mg base "_law_behind" ["kept","past","way","name","line"] 1 spBeh := by
  refine D_law_behind.fn S_law_behind (fun _ _ _ _ _ _ us hl => match us,hl with | [_,_,_,_,_],_ => rfl) (fun vs H Q E h => ?_) (fun f cdv A outer s H vs Q E hr h => ?_)
  · obtain ⟨kl,pl,way,x,y,M,kept,past,lo,rfl,_⟩ := h
    rfl
  · obtain ⟨kl,pl,way,x,y,M,kept,past,lo,rfl,lv,bo,pa,hz,lt,h5,h0,q⟩ := h
    have C3 : CompM (cxOf CX0 P w K mg base ["kept","past","way","name","line"] "_law_behind" (defScope (top 37)) f cdv A outer s H E).nox (lcA (top 37) 0) [("name",s.heap.objs.size + 1)] ["row"] [("name",3)] :=
      ⟨by rfl,rfl,by decide +kernel,by decide +kernel,(fun x hx => by simp only [List.mem_cons,List.not_mem_nil,or_false] at hx; rcases hx with rfl <;> exact rfl),(fun p hp => by simp only [List.mem_cons,List.not_mem_nil,or_false] at hp; rcases hp with rfl <;> exact rfl),by rfl,by decide +kernel,(fun p hp => by simp only [List.mem_cons,List.not_mem_nil,or_false] at hp; rcases hp with rfl <;> exact ⟨rfl,rfl,.inr (.inl rfl),rfl,rfl⟩),⟨rfl,rfl⟩,rfl⟩
    have C4 : CompN (cxOf CX0 P w K mg base ["kept","past","way","name","line"] "_law_behind" (defScope (top 37)) f cdv A outer s H E).nox (lcA (top 37) 1) [("name",s.heap.objs.size + 1)] "row" [("name",3)] :=
      ⟨by rfl,rfl,by decide +kernel,by decide +kernel,rfl,(fun p hp => by simp only [List.mem_cons,List.not_mem_nil,or_false] at hp; rcases hp with rfl <;> exact rfl),by rfl,by decide +kernel,(fun p hp => by simp only [List.mem_cons,List.not_mem_nil,or_false] at hp; rcases hp with rfl <;> exact ⟨rfl,rfl,.inr (.inl rfl),rfl,rfl⟩),⟨rfl,rfl⟩,rfl⟩
    refine ⟨_,(pss_cons (ps_if (pt_cmpR op_eq (pv 2) pe_int (nomark _)) (pss_one (ps_ret (pe_ix ix_list (pv 1) (pe_un un_neg pe_int) (fun _ _ => rfl)))) pss_nil) (pss_cons (ps_if (pt_cmpR op_lt (pv 2) pe_int (nomark _)) (pss_one (ps_ret (pe_op op_catA (pv 0) (@pe_lstA _ _ _ _ (@pa_cons _ _ _ _ _ (@pe_tupA _ _ _ _ _ (@pa_cons _ _ _ _ _ (pv 3) (@pa_cons _ _ _ _ _ (pe_callTy call_list_ofA (by rfl) T.z_list bt_list (pa_cons (pv 4) pa_nil)) pa_nil (by rfl)) (by rfl))) pa_nil (by rfl)))))) pss_nil) (pss_cons (ps_if (pt_cmpR op_eq (pv 2) pe_int (nomark _)) (pss_one (ps_ret (pe_compG rfl C3 (pi_list (pv 0)) (fun fp s₀ H₀ => (pg_name (i := 0) C3.nd rfl (Or.inl rfl) (Or.inr rfl))) (fun fp s₀ H₀ => (pts_one (pt_cmpR op_ne (pe_ix (ix_tupK (K := K) rfl) (pv 0) pe_int (fun _ _ => rfl)) (pv 1) (nomark _)))) (fun fp s₀ H₀ => (pv 0))))) pss_nil) (pss_one (ps_ret (pe_compA rfl C4 (pi_list (pv 0)) (fun fp s₀ H₀ => (pe_tupA (pa_cons (pe_ix (ix_tupK (K := K) rfl) (pv 0) pe_int (fun _ _ => rfl)) (pa_cons (pe_ifExp (pt_cmpR op_eq (pe_ix (ix_tupK (K := K) rfl) (pv 0) pe_int (fun _ _ => rfl)) (pv 1) (nomark _)) (pe_sliceRK (K := K) rfl (pe_ix (ix_tupK (K := K) rfl) (pv 0) pe_int (fun _ _ => rfl)) (po_some (pe_un un_neg pe_int))) (pe_ix (ix_tupK (K := K) rfl) (pv 0) pe_int (fun _ _ => rfl))) pa_nil)))))))))),?_⟩
    obtain ⟨rs,er,nk,hk,hr'⟩ := bo.ex
    have hl : rs.length = kept.length := by rw [← er,List.length_map]
    refine ⟨_,rfl,rfl,_,rfl,ite3 (fun h1 => ?_) (fun h1 => ?_)⟩
    · have h1' : way = 5 := by
        have : (way : Int) = 5 := by simpa using h1
        omega
      subst h1'
      obtain ⟨ps,p,ep,ed⟩ := deed_50 h0
      rw [ed] at q
      obtain ⟨ks,eks,he,hks⟩ := pa.ex
      rcases List.eq_nil_or_concat ks with rfl | ⟨ks',⟨a,p'⟩,rfl⟩
      · rw [ep] at eks
        have := congrArg List.length eks
        simp at this
      have ep' : ks'.map (·.2) ++ [p'] = ps ++ [p] := by rw [← ep,← eks]; simp
      have e2 := (List.append_inj' ep' rfl).2
      cases e2
      exact ⟨_,rfl,_,rfl,pl,_,_,.ref a,rfl,rfl,SqL.of he,at_last (by simp),q a H (Same.refl _) (hks (a,p) (by simp))⟩
    · have n5 : way ≠ 5 := fun z => by
        subst z
        exact absurd h1 (by decide)
      refine ⟨_,rfl,_,_,rfl,rfl,_,rfl,ite3 (fun h2 => ?_) (fun h2 => ?_)⟩
      · have h2' : way < 3 := by
          have : (way : Int) < 3 := by simpa using h2
          omega
        obtain ⟨n,cs,rfl,rfl,_,_,_,ed⟩ := deed_put0 h2' h0
        rw [ed] at q
        obtain ⟨p,qs,rfl,L,rfl⟩ := lt.o
        have Ll := L.at_.lst
        have hq := L.len
        refine ⟨_,rfl,_,rfl,_,rfl,p,_,rfl,.inl (SqL.of Ll),fun l2 H2 s2 f2 n2 => ⟨sz (by simp),fun t H3 s3 f3 n3 => ⟨sz (by simp),fun l4 H4 s4 f4 n4 => ⟨kl,l4,_,_,rfl,rfl,s4 _ _ (s3 _ _ (s2 _ _ hk)),f4,?_,fun l5 H5 s5 f5 n5 => ?_⟩⟩⟩⟩
        · rw [sizeLine_eq,List.length_map]
          simp only [List.length_cons,List.length_nil]
          omega
        · have S2 : Same H2 H5 := s3.trans (s4.trans s5)
          have S : Same H H5 := s2.trans S2
          refine q l5 H5 S ⟨rs ++ [(t,n,qs.map (·.2))],by rw [List.map_append,er]; rfl,(((lv.mono s2).mono s3).mono s4).out n5,by rw [f5,List.map_append]; rfl,fun r hr => ?_⟩
          rcases List.mem_append.mp hr with hr | hr
          · exact (hr' r hr).go (N := []) (.of S) (by simp)
          · rw [List.mem_singleton.mp hr]
            exact ⟨(lv.mono s2).out n3,l2,s5 _ _ (s4 _ _ f3),qs,rfl,lv.out n2,S2 _ _ f2,fun q' hq' => ⟨lv.tup (L.at_.crn q' hq').1,S _ _ (L.at_.crn q' hq').1⟩⟩
      · have h2' : way = 3 ∨ way = 4 := by
          have : ¬ (way : Int) < 3 := by simpa using h2
          omega
        obtain ⟨n,cs,rfl,_,_,ed⟩ := deed_340 h2' h0
        rw [ed] at q
        refine ⟨_,rfl,rfl,_,rfl,ite3 (fun h3 => ?_) (fun h3 => ?_)⟩
        · have h3' : way = 3 := by
            have : (way : Int) = 3 := by simpa using h3
            omega
          subst h3'
          refine ⟨_,rfl,kl,rfl,bo.sq,comp_lstP hk (by rw [List.length_map]; omega) (rowAt rs fun r => !decide (V.str r.1 = V.str n)) id (fun v H2 τ Kc Kn hv s2 hτ k1 k2 => ?_) (fun l2 H2 hl2 s2 e2 => ?_)⟩
          · obtain ⟨r,hr1,rfl⟩ := List.mem_map.mp hv
            obtain ⟨n1,l0,ht,_⟩ := hr' r hr1
            obtain ⟨τ0,rfl⟩ := List.length_eq_one_iff.mp hτ
            have er' := rowAt_eq (p := fun m => !decide (V.str m = V.str n)) hr' hr1
            refine ⟨⟨[some (.ref r.1)],rfl,rfl⟩,_,rfl,r.1,_,_,_,rfl,rfl,SqT.of (s2 _ _ ht),rfl,_,rfl,rfl,_,rfl,ite3 (fun h1 => ?_) (fun h1 => ?_)⟩
            · exact ⟨_,rfl,k1 (by rw [er']; exact h1) _ (Same.refl _)⟩
            · exact k2 (by rw [er']; exact h1) _ (Same.refl _)
          · have fr := filt_rows (rs := rs) (f := rowAt rs fun r => !decide (V.str r.1 = V.str n)) (p := fun r => !decide (V.str r.1 = V.str n)) (fun r hr => rowAt_eq (p := fun m => !decide (V.str m = V.str n)) hr' hr)
            exact q l2 H2 s2 ⟨_,by rw [fr.2,er]; rfl,lv.out hl2,by rw [e2,List.map_id,fr.1],fun r hr => (hr' r (List.mem_filter.mp hr).1).go (N := []) (.of s2) (by simp)⟩
        · have h3' : way = 4 := by
            have : ¬ (way : Int) = 3 := by simpa using h3
            omega
          subst h3'
          refine ⟨_,rfl,kl,rfl,bo.sq,comp_RL (SqL.of hk) (by rw [List.length_map]; omega) (fun l i v H2 => ∀ r,rs[i]? = some r → ∃ t l',v = .ref t ∧ H t = none ∧ t ≠ l ∧ l' ≠ l ∧ l' ∉ M ∧ H2 t = some (.tup [.str r.2.1,.ref l']) ∧ ∃ qs : Crn,qs.map (·.2) = (if r.2.1 = n then r.2.2.reverse else r.2.2) ∧ H2 l' = some (.lst (qs.map fun q => V.ref q.1)) ∧ ∀ q ∈ qs,q.1 ∉ M ∧ H q.1 = some (.tup [.int q.2.1,.int q.2.2])) (fun l i v H2 H3 bt h r hr => ?_) (fun l i x H2 Kc hl2 hl2' hx s2 kk => ?_) (fun l ys H2 hl2 s2 e2 hn' hy => ?_)⟩
          · obtain ⟨t,l',a1,a2,a3,a4,a5,a6,qs,a7,a8,a9⟩ := h r hr
            exact ⟨t,l',a1,a2,a3,a4,a5,bt _ _ (by simpa using a3) a6,qs,a7,bt _ _ (by simpa using a4) a8,a9⟩
          · rw [List.getElem?_map] at hx
            obtain ⟨r,hr1,rfl⟩ := Option.map_eq_some_iff.mp hx
            obtain ⟨n1,l0,ht,L0⟩ := hr' r (List.mem_of_getElem? hr1)
            have ht2 := s2 _ _ ht
            obtain ⟨qs,c1,c2,c3,c4⟩ := L0.ex
            refine ⟨_,rfl,r.1,_,_,_,rfl,rfl,SqT.of ht2,rfl,_,rfl,r.1,_,_,_,rfl,rfl,SqT.of ht2,rfl,_,rfl,rfl,_,rfl,ite3 (fun h1 => ?_) (fun h1 => ?_)⟩
            · refine ⟨_,rfl,r.1,_,_,_,rfl,rfl,SqT.of ht2,rfl,_,rfl,_,rfl,rfl,l0,_,rfl,SqL.of (s2 _ _ c3),fun l3 H3 s3 f3 n3 => ⟨sz (by simp),fun t H4 s4 f4 n4 => kk _ _ (s3.trans s4) fun r' h' => ?_⟩⟩
              rw [hr1] at h'
              cases h'
              have hn1 : r.2.1 = n := by simpa using h1
              exact ⟨t,l3,rfl,Same.free (s2.trans s3) n4,ne_live (still s3 hl2') n4,ne_live hl2' n3,(lv.mono s2).out n3,f4,qs.reverse,by rw [if_pos hn1,List.map_reverse,c1],by rw [s4 _ _ f3,List.map_reverse],fun q' hq' => c4 q' (List.mem_reverse.mp hq')⟩
            · refine ⟨_,rfl,r.1,_,_,_,rfl,rfl,SqT.of ht2,rfl,sz (by simp),fun t H4 s4 f4 n4 => kk _ _ s4 fun r' h' => ?_⟩
              rw [hr1] at h'
              cases h'
              have hn1 : r.2.1 ≠ n := by simpa using h1
              exact ⟨t,l0,rfl,Same.free s2 n4,ne_live hl2' n4,(fun z => by rw [← z,c3] at hl2; cases hl2),c2,f4,qs,by rw [if_neg hn1,c1],s4 _ _ (s2 _ _ c3),c4⟩
          · rw [List.length_map] at hn'
            obtain ⟨rs',e1',e2',h3'⟩ := rows_of (G := fun r => En M H2 r) (es := trn kept n) (ys := ys) (by unfold trn; rw [List.length_map]; omega) (fun i y e' h1 h2 => by
              unfold trn at h2
              rw [List.getElem?_map] at h2
              obtain ⟨r0,hr0,rfl⟩ := Option.map_eq_some_iff.mp h2
              rw [← er,List.getElem?_map] at hr0
              obtain ⟨r,hr1,rfl⟩ := Option.map_eq_some_iff.mp hr0
              obtain ⟨t,l',a1,a2,a3,a4,a5,a6,qs,a7,a8,a9⟩ := hy i y h1 r hr1
              refine ⟨t,a1,lv.out a2,l',?_,qs,?_,a5,a8,fun q' hq' => ⟨(a9 q' hq').1,s2 _ _ (a9 q' hq').2⟩⟩
              · by_cases e : r.2.1 = n
                · rw [if_pos e]; exact a6
                · rw [if_neg e]; exact a6
              · rw [a7]
                by_cases e : r.2.1 = n
                · rw [if_pos e,if_pos e]
                · rw [if_neg e,if_neg e])
            exact q l H2 s2 ⟨rs',e1',lv.out hl2,by rw [e2,e2'],h3'⟩
def nmE (a : Str) : V → Bool
  | .str z => decide (V.str a = V.str z)
  | _ => false
theorem deq_nm {H : Hp} {n : Nat} {x : V} {d : D} {a : Str} (r : Rp H n x d) : deq (.str a) d = nmE a x := by
  cases r with
  | @str _ z =>
    show (a == z) = decide (V.str a = V.str z)
    rw [vstr]
    rfl
  | _ => rfl
theorem nmE_false {M : List Addr} {H : Hp} {rs : List (Addr × Str × Cs)} {kept : Bk} {x : V} (er : rs.map (·.2) = kept) (gd : ∀ r ∈ kept,nameB r.1 = true) (h : atN x kept = none) : ∀ r ∈ rs,nmE r.2.1 x = false := fun r hr => by
  have hm : r.2 ∈ kept := by rw [← er]; exact List.mem_map.mpr ⟨r,hr,rfl⟩
  unfold nmE
  split
  · rename_i z
    refine decide_eq_false fun e => ?_
    cases e
    unfold atN at h
    dsimp only at h
    rw [gd r.2 hm,if_neg (by decide)] at h
    exact fnd_none.mp h (List.mem_map.mpr ⟨r.2,hm,rfl⟩)
  · rfl
def lnOf (H : Hp) : V → V
  | .ref a => (match H a with
    | some (.tup [_,y]) => y
    | _ => .non)
  | _ => .non
theorem lnOf_eq {H : Hp} {a : Addr} {x y : V} (e : H a = some (.tup [x,y])) : lnOf H (.ref a) = y := by simp only [lnOf,e]
inductive spLS (C : Addr) (vs : List V) (H : Hp) (Q : VK) (x_3 : XK) : Prop
  | mk : ∀ (b kl : Addr) (x : V) (M : List Addr) (e : Addr) (kept : Bk) (past : List Bk),(vs = [.ref b,.ref kl,x]) → (BookR M C H b e kept past) → (Bo M H kl kept) → (Nm H x) → (Good kept) → (∀ H',Same H H' → Q (.bl true) H') → spLS C vs H Q x_3
inductive spStands (C : Addr) (vs : List V) (H : Hp) (Q : VK) (x_3 : XK) : Prop
  | mk : ∀ (b kl : Addr) (M : List Addr) (e : Addr) (kept : Bk) (past : List Bk),(vs = [.ref b,.ref kl]) → (BookR M C H b e kept past) → (Bo M H kl kept) → (Good kept) → (∀ H',Same H H' → Q (.bl true) H') → spStands C vs H Q x_3
theorem find_filt {α : Type} {p : α → Bool} : ∀ {rs : List α} {r : α},rs.find? p = some r → ∃ t,rs.filter p = r :: t
  | [],_,h => by cases h
  | a :: rs,r,h => by
    rw [List.find?_cons] at h
    cases e : p a with
    | true => rw [e] at h; cases h; exact ⟨_,by rw [List.filter_cons,e]; rfl⟩
    | false =>
      rw [e] at h
      obtain ⟨t,ht⟩ := find_filt h
      exact ⟨t,by rw [List.filter_cons,e]; exact ht⟩
theorem S_law_line_stands : FnScope ["book","kept","name","due","found","caught","e"] ["book","kept","name"] (defScope (top 39)) := ⟨rfl,rfl,rfl,by decide +kernel,rfl,by decide +kernel,by decide +kernel⟩
theorem fn_law_line_stands {cl : Nat → Addr} {L d0 d1 d2 d3 d4 d5 d6 d7 : Addr} (D_law_line_stands : Df K mg "_law_line_stands" (top 39)) (O_Book : OwnC K mg "Book" C_Book) (O_LeashError : ExcC K mg "LeashError" L) (wd : Wd K mg cl L [d0,d1,d2,d3,d4,d5,d6,d7]) (F_Book_line : Mt P w K mg base C_Book "line" ["self","name"] 2 (spLineB C_Book (cl 1))) (F_law_word : Fn P w K mg base "_law_word" ["caught"] 1 (spWord cl)) (T : Txt mg) : Fn P w K mg base "_law_line_stands" ["book","kept","name"] 3 (spLS C_Book) := by
  refine D_law_line_stands.fn S_law_line_stands (fun _ _ _ _ _ _ us hl => match us,hl with | [_,_,_],_ => rfl) (fun vs H Q E h => ?_) (fun f cdv A outer s H vs Q E hr h => ?_)
  · obtain ⟨b,kl,x,M,e,kept,past,rfl,_⟩ := h
    rfl
  · obtain ⟨b,kl,x,M,e,kept,past,rfl,bk,bo,nm,gd,q⟩ := h
    have CN : CompM (cxOf CX0 P w K mg base ["book","kept","name","due","found","caught","e"] "_law_line_stands" (defScope (top 39)) f cdv A outer s H E).nox (lcA (top 39) 0) [("name",s.heap.objs.size + 1)] ["row"] [("name",2)] :=
      ⟨by rfl,rfl,by decide +kernel,by decide +kernel,(fun x hx => by simp only [List.mem_cons,List.not_mem_nil,or_false] at hx; rcases hx with rfl <;> exact rfl),(fun p hp => by simp only [List.mem_cons,List.not_mem_nil,or_false] at hp; rcases hp with rfl <;> exact rfl),by rfl,by decide +kernel,(fun p hp => by simp only [List.mem_cons,List.not_mem_nil,or_false] at hp; rcases hp with rfl <;> exact ⟨rfl,rfl,.inr (.inl rfl),rfl,rfl⟩),⟨rfl,rfl⟩,rfl⟩
    have HM : ∀ C,Cls5 cl C → PySem.W.exmOne K (.ref C) (.ref L) = some true := fun Z hZ => by
      obtain ⟨c,hc,rfl⟩ := hZ
      exact wd.m c hc
    obtain ⟨rs,er,nk,hk,hr'⟩ := bo.ex
    have hl : rs.length = kept.length := by rw [← er,List.length_map]
    have hz := gd.len
    obtain ⟨d,rd⟩ := nm.rp
    have R : ∃ u : TS,PSs (cxOf CX0 P w K mg base ["book","kept","name","due","found","caught","e"] "_law_line_stands" (defScope (top 39)) f cdv A outer s H E).nox ((defBody (top 39)).drop 4) u ∧ ∀ (cv fv : V) (z : Option V) (H' : Hp) (dl : Addr),Same H H' → H' dl = some (.lst ((rs.filter fun r => nmE r.2.1 x).map fun r => lnOf H (.ref r.1))) →
        ((atN x kept = none ∧ fv = .non ∧ ∃ a,cv = .ref a ∧ H' a = some (excO (cl 1) a)) ∨ (∃ cs l,atN x kept = some cs ∧ cv = .non ∧ fv = .ref l ∧ Rp H' 9 (.ref l) (dL cs))) → u { nx := fun _ H' => Q .non H',rt := Q } [some (.ref b),some (.ref kl),some x,some (.ref dl),some fv,some cv,z] H' := by
      refine ⟨_,(pss_cons (ps_if (pt_cmpR (op_eqD hr.units10) (pv 3) (pe_lstA pa_nil) (nomark _)) (pss_one (ps_ret (pe_and (pe_cmpR op_isN (pv 4) pe_non (nomark _)) (pe_one (pe_cmpR op_eq (pe_fn F_law_word (hr.mono (by decide)) (by rfl) (pa_cons (pv 5) pa_nil)) pe_str (nomark _)))))) pss_nil) (pss_one (ps_ret (pe_and (pe_cmpR op_isN (pv 5) pe_non (nomark _)) (pe_one (pe_cmpR (op_eqD hr.units10) (pv 4) (pe_ix ix_list (pv 3) pe_int (fun _ _ => rfl)) (nomark _))))))),fun cv fv z H' dl s' fd h => ?_⟩
      refine ⟨_,rfl,sz (by simp),fun l3 H3 s3 f3 n3 => ⟨.lst ((rs.filter fun r => nmE r.2.1 x).map fun r => dL r.2.2),.lst [],?_,Rp.l0 f3,_,rfl,?_⟩⟩
      · refine .lst (s3 _ _ fd) (by simp) fun j v d hv hd => ?_
        rw [List.getElem?_map] at hv hd
        obtain ⟨r,hr,rfl⟩ := Option.map_eq_some_iff.mp hv
        rw [hr] at hd
        cases hd
        obtain ⟨n1,l0,ht,L0⟩ := hr' r (List.mem_filter.mp (List.mem_of_getElem? hr)).1
        rw [lnOf_eq ht]
        exact (L0.go (N := []) (.of (s'.trans s3)) (by simp)).rp
      · rcases h with ⟨ha,rfl,a,rfl,fa⟩ | ⟨cs,l,ha,rfl,rfl,hl⟩
        · have e0 : (rs.filter fun r => nmE r.2.1 x) = [] := List.filter_eq_nil_iff.mpr fun r hr => by rw [nmE_false (M := M) (H := H) er gd.nm ha r hr]; simp
          rw [e0]
          refine iteTrue rfl ⟨_,rfl,rfl,_,rfl,iteTrue (by decide) ⟨_,rfl,a,1,rfl,⟨by decide,by decide⟩,s3 _ _ fa,fun H4 s4 => ⟨rfl,q H4 (s'.trans (s3.trans s4))⟩⟩⟩
        · obtain ⟨n,rfl,hn,hf⟩ := atN_str ha
          rw [rows_fnd er] at hf
          obtain ⟨r,hr,er2⟩ := Option.map_eq_some_iff.mp hf
          obtain ⟨t,ht⟩ := find_filt hr
          have ht' : (rs.filter fun r => nmE r.2.1 (.str n)) = r :: t := ht
          rw [ht']
          have hm : r ∈ rs := List.mem_of_find?_eq_some hr
          obtain ⟨n1,l0,ht0,L0⟩ := hr' r hm
          refine iteFalse rfl ⟨_,rfl,rfl,_,rfl,iteTrue (by decide) ⟨_,rfl,_,rfl,dl,_,_,.ref l0,rfl,rfl,SqL.of (s3 _ _ fd),?_,dL cs,dL cs,hl.mono s3,?_,?_⟩⟩
          · rw [ht',List.map_cons,lnOf_eq ht0]
            exact at0 _ _
          · rw [← er2]
            exact (L0.go (N := []) (.of (s'.trans s3)) (by simp)).rp
          · rw [deq_self]
            exact q H3 (s'.trans s3)
    obtain ⟨u,hu,hR⟩ := R
    obtain ⟨dx,k,hb,bo2,pa⟩ := bk.ex
    refine ⟨_,(pss_cons (ps_setCompG (j := 3) rfl CN S_law_line_stands.nd rfl rfl (pi_list (pv 1)) (fun fp s₀ H₀ => (pg_name (i := 0) CN.nd rfl (Or.inl rfl) (Or.inr rfl))) (fun fp s₀ H₀ => (pts_one (pt_cmpR (op_eqD hr.units10) (pe_ix (ix_tupK (K := K) rfl) (pv 0) pe_int (fun _ _ => rfl)) (pv 1) (nomark _)))) (fun fp s₀ H₀ => (pe_ix (ix_tupK (K := K) rfl) (pv 0) pe_int (fun _ _ => rfl)))) (pss_cons (ps_set (i := 4) S_law_line_stands.nd rfl (Or.inl rfl) pe_non) (pss_cons (ps_set (i := 5) S_law_line_stands.nd rfl (Or.inl rfl) pe_non) (pss_cons (ps_try_asM (i := 6) rfl rfl (pxs_one (px_setM (i := 4) S_law_line_stands.nd rfl (Or.inl rfl) O_Book F_Book_line (hr.mono (by decide)) (pv 0) (pa_cons (pv 2) pa_nil))) O_LeashError (by rfl) (HM) rfl S_law_line_stands.nd rfl rfl (fun e => (pss_one (ps_set (i := 5) S_law_line_stands.nd rfl (Or.inl rfl) (pv 6))))) hu)))),?_⟩
    refine ⟨_,rfl,kl,rfl,bo.sq,comp_lstP hk (by rw [List.length_map]; omega) (rowAt rs fun r => nmE r.1 x) (lnOf H) (fun v H2 τ Kc Kn hv s2 hτ k1 k2 => ?_) (fun l2 H2 hl2 s2 e2 => ?_)⟩
    · obtain ⟨r,hr1,rfl⟩ := List.mem_map.mp hv
      obtain ⟨n1,l0,ht,_⟩ := hr' r hr1
      obtain ⟨τ0,rfl⟩ := List.length_eq_one_iff.mp hτ
      have er' := rowAt_eq (p := fun m => nmE m x) hr' hr1
      have ht2 := s2 _ _ ht
      refine ⟨⟨[some (.ref r.1)],rfl,rfl⟩,_,rfl,r.1,_,_,_,rfl,rfl,SqT.of ht2,rfl,_,rfl,.str r.2.1,d,.str,(rd.mono s2).deep (by decide),_,rfl,?_⟩
      have e5 : (if false = true then !deq (.str r.2.1) d else deq (.str r.2.1) d) = nmE r.2.1 x := by rw [if_neg (by decide)]; exact deq_nm rd
      rw [e5]
      refine ite3 (fun h1 => ?_) (fun h1 => ?_)
      · refine ⟨_,rfl,r.1,_,_,_,rfl,rfl,SqT.of ht2,rfl,?_⟩
        have := k1 (by rw [er']; exact h1) _ (Same.refl _)
        rw [lnOf_eq ht] at this
        exact this
      · exact k2 (by rw [er']; exact h1) _ (Same.refl _)
    · have fr := filt_rows (rs := rs) (f := rowAt rs fun r => nmE r.1 x) (p := fun r => nmE r.1 x) (fun r hr => rowAt_eq (p := fun m => nmE m x) hr' hr)
      have e2' : H2 l2 = some (.lst ((rs.filter fun r => nmE r.2.1 x).map fun r => lnOf H (.ref r.1))) := by
        rw [e2,fr.1,List.map_map]
        rfl
      have bk2 := bk.mono s2
      refine ⟨_,rfl,b,dx,_,rfl,s2 _ _ hb,rfl,_,rfl,b,x,M,e,kept,past,rfl,bk2,nm.mono s2,by omega,gd.ln,fun cs hc l qs H3 s3 n3 eq f3 hq => ?_,fun hc H3 s3 => ⟨_,rfl,⟨1,⟨by decide,by decide⟩,rfl⟩,fun a ha => ⟨_,rfl,?_⟩⟩⟩
      · refine hR .non (.ref l) none H3 l2 (s2.trans s3) (s3 _ _ e2') (.inr ⟨cs,l,hc,rfl,rfl,?_⟩)
        rw [← eq]
        exact qs_rp f3 fun q' hq' => (hq q' hq').2
      · have s4 : Same H3 (upd H3 a (excO (cl 1) a)) := Same.new ha
        exact hR (.ref a) .non none _ l2 (s2.trans (s3.trans s4)) (s4 _ _ (s3 _ _ e2')) (.inl ⟨hc,rfl,a,rfl,upd_same⟩)
theorem S_law_stands : FnScope ["book","kept","found","name","line","told"] ["book","kept"] (defScope (top 40)) := ⟨rfl,rfl,rfl,by decide +kernel,rfl,by decide +kernel,by decide +kernel⟩
theorem fn_law_stands {cl : Nat → Addr} (D_law_stands : Df K mg "_law_stands" (top 40)) (O_Book : OwnC K mg "Book" C_Book) (F_Book_names : Mt P w K mg base C_Book "names" ["self"] 1 (spNames C_Book)) (F_Book_line : Mt P w K mg base C_Book "line" ["self","name"] 2 (spLineB C_Book (cl 1))) (T : Txt mg) : Fn P w K mg base "_law_stands" ["book","kept"] 3 (spStands C_Book) := by
  refine D_law_stands.fn S_law_stands (fun _ _ _ _ _ _ us hl => match us,hl with | [_,_],_ => rfl) (fun vs H Q E h => ?_) (fun f cdv A outer s H vs Q E hr h => ?_)
  · obtain ⟨b,kl,M,e,kept,past,rfl,_⟩ := h
    rfl
  · obtain ⟨b,kl,M,e,kept,past,rfl,bk,bo,gd,q⟩ := h
    have CN : CompN (cxOf CX0 P w K mg base ["book","kept","found","name","line","told"] "_law_stands" (defScope (top 40)) f cdv A outer s H E).nox (lcA (top 40) 0) [] "row" [] :=
      ⟨by rfl,rfl,by decide +kernel,by decide +kernel,rfl,(fun p hp => nomatch hp),by rfl,by decide +kernel,(fun p hp => nomatch hp),⟨rfl,rfl⟩,rfl⟩
    refine ⟨_,(pss_cons (ps_set (i := 2) S_law_stands.nd rfl (Or.inl rfl) (pe_mt00 O_Book F_Book_names (hr.mono (by decide)) (pv 0))) (pss_cons (ps_if (pw_or (pt_not (pt_val (pe_callB call_isinst (by rfl) T.z_isinstance bt_isinstance (pa_cons (pv 2) (pa_cons (pe_ty T.z_list bt_list) pa_nil))))) (pw_or1 (pt_cmpR (op_neD hr.units10) (pv 2) (pe_compA rfl CN (pi_list (pv 1)) (fun fp s₀ H₀ => (pe_ix (ix_tupK (K := K) rfl) (pv 0) pe_int (fun _ _ => rfl)))) (nomark _)))).pt (pss_one (ps_ret pe_bl)) pss_nil) (pss_cons (ps_expr (pe_bm PySem.F.plainAttrs_list PySem.F.slot_list_append PySem.F.type_list_append mt_appendA (pv 2) (pa_cons pe_str pa_nil))) (pss_cons (ps_for PassesOwn.never rfl (pi_list (pv 1)) (pg_tup rfl (pgs_cons (pg_name (i := 3) S_law_stands.nd rfl (Or.inl rfl)) (pgs_cons (pg_name (i := 4) S_law_stands.nd rfl (Or.inl rfl)) pgs_nil))) (pss_cons (ps_set (i := 5) S_law_stands.nd rfl (Or.inl rfl) (pe_mt0 O_Book F_Book_line (hr.mono (by decide)) (pv 0) (pa_cons (pv 3) pa_nil))) (pss_cons (ps_if (pw_or (pt_not (pt_val (pe_callB call_isinst (by rfl) T.z_isinstance bt_isinstance (pa_cons (pv 5) (pa_cons (pe_ty T.z_list bt_list) pa_nil))))) (pw_or1 (pt_cmpR (op_neD hr.units10) (pv 5) (pv 4) (nomark _)))).pt (pss_one (ps_ret pe_bl)) pss_nil) (pss_one (ps_expr (pe_bm PySem.F.plainAttrs_list PySem.F.slot_list_append PySem.F.type_list_append mt_appendA (pv 5) (pa_cons (pe_tupA (pa_cons pe_int (pa_cons pe_int pa_nil))) pa_nil))))))) (pss_one (ps_ret (pe_cmpR (op_eqD hr.units10) (pe_mt00 O_Book F_Book_names (hr.mono (by decide)) (pv 0)) (pe_compA rfl CN (pi_list (pv 1)) (fun fp s₀ H₀ => (pe_ix (ix_tupK (K := K) rfl) (pv 0) pe_int (fun _ _ => rfl)))) (nomark _)))))))),?_⟩
    obtain ⟨dx,k,hb,bo2,pa⟩ := bk.ex
    obtain ⟨rs,er,nk,hk,hr'⟩ := bo.ex
    have hl : rs.length = kept.length := by rw [← er,List.length_map]
    have hz := gd.len
    refine ⟨_,rfl,b,dx,_,rfl,hb,rfl,b,M,e,kept,past,rfl,bk,by omega,fun l1 H1 s1 n1 f1 => ?_⟩
    refine ⟨_,rfl,_,"list","list",rfl,.lst f1,.inr (.inr (.inr (.inl rfl))),_,rfl,iteFalse (by decide) ?_⟩
    have bo1 := bo.mono s1
    refine ⟨_,rfl,_,rfl,kl,rfl,bo1.sq,comp_nms bo1 (by omega) (fun r n l H2 Kc ht k => ⟨_,rfl,r,_,_,_,rfl,rfl,SqT.of ht,rfl,k⟩) (fun l2 H2 n2 s2 f2 => ⟨_,_,nms_rp (s2 _ _ f1),nms_rp f2,_,rfl,?_⟩)⟩
    rw [if_pos rfl,deq_self]
    refine iteFalse (by decide) ?_
    refine ⟨_,rfl,.inl ⟨rfl,_,SqL.of (s2 _ _ f1)⟩,l1,_,_,rfl,rfl,s2 _ _ f1,by rw [sizeLine_eq,List.length_map]; omega,fun H3 u3 => ?_⟩
    have S3 : Same H H3 := u3.same (s1.trans s2) n1
    refine ⟨_,rfl,kl,rfl,(bo.mono S3).sq,for_list (K := K) (a := kl) (xs := rs.map fun r => V.ref r.1) (fun i σ H4 => ∃ z3 z4 z5,σ = [some (.ref b),some (.ref kl),some (.ref l1),z3,z4,z5] ∧ Same H H4) ⟨_,_,_,rfl,S3⟩ ?_ ?_ ?_⟩
    · rintro i σ H4 hi ⟨z3,z4,z5,rfl,s4⟩
      exact SqL.of (s4 _ _ hk)
    · rintro i v σ H4 hv ⟨z3,z4,z5,rfl,s4⟩
      rw [List.getElem?_map] at hv
      obtain ⟨r,hr1,rfl⟩ := Option.map_eq_some_iff.mp hv
      have hm := List.mem_of_getElem? hr1
      have hm2 : r.2 ∈ kept := by rw [← er]; exact List.mem_map.mpr ⟨r,hm,rfl⟩
      obtain ⟨nn1,l0,ht,L0⟩ := hr' r hm
      have hnb := gd.nm r.2 hm2
      refine ⟨r.1,_,rfl,SqT.of (s4 _ _ ht),rfl,_,_,rfl,_,_,rfl,rfl,?_⟩
      have e0 : atN (.str r.2.1) kept = some r.2.2 := by
        unfold atN
        dsimp only
        rw [hnb,if_neg (by decide)]
        cases hf : fnd kept r.2.1 with
        | none => exact absurd (List.mem_map.mpr ⟨r.2,hm2,rfl⟩) (fnd_none.mp hf)
        | some cs => rw [fnd_same gd.nd hf r.2 hm2 rfl]
      have hlen : r.2.1.length ≤ 100 := by
        have := hnb
        unfold nameB at this
        simp only [Bool.and_eq_true,decide_eq_true_eq] at this
        omega
      refine ⟨_,rfl,b,dx,_,rfl,s4 _ _ hb,rfl,_,rfl,b,.str r.2.1,M,e,kept,past,rfl,bk.mono s4,⟨⟨_,.str _⟩,⟨_,.str⟩,fun z e => by cases e; exact hlen⟩,by omega,gd.ln,fun cs hc l qs H5 s5 n5 eq f5 hq => ?_,fun hc => by rw [e0] at hc; cases hc⟩
      rw [e0] at hc
      cases hc
      refine ⟨_,rfl,_,"list","list",rfl,.lst f5,.inr (.inr (.inr (.inl rfl))),_,rfl,iteFalse (by decide) ?_⟩
      refine ⟨_,rfl,_,rfl,_,_,qs_rp f5 fun q' hq' => (hq q' hq').2,(L0.go (N := []) (.of (s4.trans s5)) (by simp)).rp,_,rfl,?_⟩
      rw [eq,if_pos rfl,deq_self]
      refine iteFalse (by decide) ?_
      have hql : qs.length ≤ 10 := by
        have := gd.ln r.2 hm2
        rw [← eq,List.length_map] at this
        exact this
      refine ⟨_,rfl,.inl ⟨rfl,_,SqL.of f5⟩,sz (by simp),fun t H6 s6 f6 n6 => ⟨l,_,_,rfl,rfl,s6 _ _ f5,by rw [sizeLine_eq,List.length_map]; omega,fun H7 u7 => ?_⟩⟩
      exact ⟨_,_,_,rfl,u7.same ((s4.trans s5).trans s6) (Same.free s4 n5)⟩
    · rintro σ H4 ⟨z3,z4,z5,rfl,s4⟩
      refine ⟨_,rfl,b,dx,_,rfl,s4 _ _ hb,rfl,b,M,e,kept,past,rfl,bk.mono s4,by omega,fun l5 H5 s5 n5 f5 => ?_⟩
      have bo5 := bo.mono (s4.trans s5)
      refine ⟨_,rfl,kl,rfl,bo5.sq,comp_nms bo5 (by omega) (fun r n l H2 Kc ht k => ⟨_,rfl,r,_,_,_,rfl,rfl,SqT.of ht,rfl,k⟩) (fun l6 H6 n6 s6 f6 => ⟨_,_,nms_rp (s6 _ _ f5),nms_rp f6,?_⟩)⟩
      rw [if_neg (by decide),deq_self]
      exact q H6 (s4.trans (s5.trans s6))
def Nb (n : Int) : Prop := 0 ≤ n ∧ n < 10 ^ 13
theorem Nb.bits {n : Int} (h : Nb n) : bits n ≤ 50 := by
  obtain ⟨a,b⟩ := h
  refine bits_of (n := 50) ?_
  show _ < 1125899906842624
  omega
inductive spCor (vs : List V) (H : Hp) (Q : VK) (x_3 : XK) : Prop
  | mk : ∀ (pn : Addr) (a0 a1 a2 a3 : Int),(vs = [.ref pn,.int 4]) → (H pn = some (.lst [.int a0,.int a1,.int a2,.int a3])) → ((Nb a0 ∧ Nb a1 ∧ Nb a2 ∧ Nb a3)) → (∀ (l : Addr) (qs : Crn) (H' : Hp),Same H H' → H l = none → LineS H' l qs → qs.length ≤ 4 → Q (.ref l) H') → spCor vs H Q x_3
theorem S_law_corners : FnScope ["numbers","most","many","wide","corners","k","far"] ["numbers","most"] (defScope (top 31)) := ⟨rfl,rfl,rfl,by decide +kernel,rfl,by decide +kernel,by decide +kernel⟩
theorem fn_law_corners (D_law_corners : Df K mg "_law_corners" (top 31)) (T : Txt mg) : Fn P w K mg base "_law_corners" ["numbers","most"] 1 spCor := by
  refine D_law_corners.fn S_law_corners (fun _ _ _ _ _ _ us hl => match us,hl with | [_,_],_ => rfl) (fun vs H Q E h => ?_) (fun f cdv A outer s H vs Q E hr h => ?_)
  · obtain ⟨pn,a0,a1,a2,a3,rfl,_⟩ := h
    rfl
  · obtain ⟨pn,a0,a1,a2,a3,rfl,en,⟨b0,b1,b2,b3⟩,q⟩ := h
    refine ⟨_,(pss_cons (ps_set (i := 2) S_law_corners.nd rfl (Or.inl rfl) (pe_op op_add pe_int (pe_op op_mod (pe_ix ix_list (pv 0) pe_int (fun _ _ => rfl)) (pv 1)))) (pss_cons (ps_set (i := 3) S_law_corners.nd rfl (Or.inl rfl) (pe_ix ix_list (pe_lstA (pa_cons pe_int (pa_cons pe_int (pa_cons (pe_op op_sub (pe_op op_pow pe_int pe_int) pe_int) pa_nil)))) (pe_op op_mod (pe_ix ix_list (pv 0) pe_int (fun _ _ => rfl)) pe_int) (fun _ _ => rfl))) (pss_cons (ps_set (i := 4) S_law_corners.nd rfl (Or.inl rfl) (pe_lstA pa_nil)) (pss_cons (ps_for PassesOwn.never rfl (pi_range1 rfl T.z_range (pa_cons (pv 2) pa_nil)) (pg_name (i := 5) S_law_corners.nd rfl (Or.inl rfl)) (pss_cons (ps_set (i := 6) S_law_corners.nd rfl (Or.inl rfl) (pe_op op_add (pe_op op_fdivP (pe_ix ix_list (pv 0) pe_int (fun _ _ => rfl)) (pe_op op_add (pv 5) pe_int)) (pe_op op_mulX (pe_ix ix_list (pv 0) pe_int (fun _ _ => rfl)) (pv 5)))) (pss_one (ps_expr (pe_bm PySem.F.plainAttrs_list PySem.F.slot_list_append PySem.F.type_list_append mt_appendA (pv 4) (pa_cons (pe_tupA (pa_cons (pe_op op_sub (pe_op op_mod (pv 6) (pe_op op_add (pe_op op_mulX pe_int (pv 3)) pe_int)) (pv 3)) (pa_cons (pe_op op_sub (pe_op op_mod (pe_op op_add (pe_op op_fdivP (pv 6) pe_int) (pe_ix ix_list (pv 0) pe_int (fun _ _ => rfl))) (pe_op op_add (pe_op op_mulX pe_int (pv 3)) pe_int)) (pv 3)) pa_nil))) pa_nil)))))) (pss_one (ps_ret (pv 4))))))),?_⟩
    have m0 := Int.emod_nonneg a0 (show (4 : Int) ≠ 0 by decide)
    have m1 := Int.emod_lt_of_pos a0 (show (0 : Int) < 4 by decide)
    refine ⟨_,rfl,pn,_,_,_,rfl,rfl,SqL.of en,rfl,_,rfl,_,_,rfl,rfl,(by show (0 : Int) < 4; decide),_,_,rfl,rfl,?_⟩
    generalize hmn : 1 + a0 % 4 = many
    obtain ⟨mn,rfl⟩ : ∃ mn : Nat,many = (mn : Int) := ⟨many.toNat,by omega⟩
    have hm1 : 1 ≤ mn := by omega
    have hm4 : mn ≤ 4 := by omega
    refine ⟨_,_,rfl,rfl,⟨by decide,by decide,by decide⟩,_,_,rfl,rfl,sz (by simp),fun pw H1 s1 f1 n1 => ?_⟩
    have hv0 := Int.emod_nonneg a1 (show (3 : Int) ≠ 0 by decide)
    have hv1 := Int.emod_lt_of_pos a1 (show (0 : Int) < 3 by decide)
    obtain ⟨vb,hvb,mvb⟩ := atI_mem (xs := [V.int 2,.int 9,.int (10 ^ (12 : Int).toNat - 1)]) hv0 hv1
    obtain ⟨wd,rfl,hw0,hw1⟩ : ∃ wd : Int,vb = .int wd ∧ 1 ≤ wd ∧ wd ≤ 999999999999 := by
      have e12 : ((10 : Int) ^ (12 : Int).toNat - 1) = 999999999999 := by decide +kernel
      rw [e12] at mvb
      simp only [List.mem_cons,List.not_mem_nil,or_false] at mvb
      rcases mvb with rfl | rfl | rfl
      · exact ⟨_,rfl,by decide,by decide⟩
      · exact ⟨_,rfl,by decide,by decide⟩
      · exact ⟨_,rfl,by decide,by decide⟩
    refine ⟨_,rfl,pn,_,_,_,rfl,rfl,SqL.of (s1 _ _ en),rfl,_,_,rfl,rfl,(by show (0 : Int) < 3; decide),pw,_,_,_,rfl,rfl,SqL.of f1,hvb,?_⟩
    refine ⟨sz (by simp),fun pc H2 s2 f2 n2 => ?_⟩
    have s12 := s1.trans s2
    have nc : H pc = none := Same.free s1 n2
    refine ⟨_,rfl,_,rfl,by omega,by omega,?_⟩
    rw [Int.toNat_natCast]
    refine for_range (fun i σ H' => ∃ (qs : Crn) (z5 z6 : Option V),σ = [some (.ref pn),some (.int 4),some (.int (mn : Int)),some (.int wd),some (.ref pc),z5,z6] ∧ Same H H' ∧ LineM H' pc qs ∧ qs.length = i) ⟨[],_,_,rfl,s12,⟨f2,fun q h => nomatch h⟩,rfl⟩ ?_ ?_
    · rintro i σ H' hi ⟨qs,z5,z6,rfl,sm,L,rfl⟩
      have en' := sm _ _ en
      have bk : bits (0 + (qs.length : Int) + 1) ≤ 50 := bits_of (n := 50) (by show _ < 1125899906842624; omega)
      have bk0 : bits (0 + (qs.length : Int)) ≤ 50 := bits_of (n := 50) (by show _ < 1125899906842624; omega)
      refine ⟨_,rfl,pn,_,_,_,rfl,rfl,SqL.of en',rfl,_,rfl,_,_,rfl,rfl,_,_,rfl,rfl,⟨by omega,bits_le bk (by decide)⟩,_,rfl,pn,_,_,_,rfl,rfl,SqL.of en',rfl,_,rfl,_,_,rfl,rfl,CM.of b3.bits bk0 (by decide),_,_,rfl,rfl,?_⟩
      generalize a2 / (0 + (qs.length : Int) + 1) + a3 * (0 + (qs.length : Int)) = far
      have w0 : (0 : Int) < 2 * wd + 1 := by omega
      refine ⟨_,rfl,.inl ⟨rfl,_,SqL.of L.lst⟩,_,rfl,_,rfl,_,_,rfl,rfl,CM.l ⟨by decide,by decide⟩,_,_,rfl,rfl,_,_,rfl,rfl,w0,_,rfl,_,_,rfl,rfl,_,rfl,_,_,rfl,rfl,⟨by decide,bits_le (m := 5) (by decide +kernel) (by decide)⟩,_,rfl,pn,_,_,_,rfl,rfl,SqL.of en',rfl,_,_,rfl,rfl,_,rfl,_,_,rfl,rfl,CM.l ⟨by decide,by decide⟩,_,_,rfl,rfl,_,_,rfl,rfl,w0,_,rfl,_,_,rfl,rfl,sz (by simp),fun t H4 s4 f4 n4 => ⟨pc,_,_,rfl,rfl,s4 _ _ L.lst,small1000 (by rw [List.length_map]; omega),fun H5 u5 => ?_⟩⟩
      have x0 := Int.emod_nonneg far (show 2 * wd + 1 ≠ 0 by omega)
      have x1 := Int.emod_lt_of_pos far w0
      have y0 := Int.emod_nonneg (far / 7 + a3) (show 2 * wd + 1 ≠ 0 by omega)
      have y1 := Int.emod_lt_of_pos (far / 7 + a3) w0
      refine ⟨qs ++ [(t,far % (2 * wd + 1) - wd,(far / 7 + a3) % (2 * wd + 1) - wd)],_,_,rfl,u5.same (sm.trans s4) nc,⟨by rw [u5.now,List.map_append]; rfl,fun z hz => ?_⟩,by simp⟩
      rcases List.mem_append.mp hz with hz | hz
      · exact ⟨u5.t _ _ (s4 _ _ (L.crn z hz).1),(L.crn z hz).2⟩
      · rw [List.mem_singleton.mp hz]
        refine ⟨u5.t _ _ f4,⟨?_,?_⟩,?_,?_⟩ <;> unfold larg <;> dsimp only <;> omega
    · rintro σ H' ⟨qs,z5,z6,rfl,sm,L,hq⟩
      exact ⟨_,rfl,q pc qs H' sm nc (L.s (by omega) (by omega)) (by omega)⟩
structure Ws (H : Hp) (nl : Addr) (ws : List Str) : Prop where
  lst : H nl = some (.lst (ws.map V.str))
  ne : 0 < ws.length
  few : ws.length ≤ 100
  nm : ∀ w ∈ ws,nameB w = true
theorem Ws.mono {H H' : Hp} {nl : Addr} {ws : List Str} (h : Ws H nl ws) (s : Same H H') : Ws H' nl ws := ⟨s _ _ h.lst,h.ne,h.few,h.nm⟩
theorem nameB_len {z : Str} (h : nameB z = true) : z.length ≤ 8 := by
  unfold nameB at h
  simp only [Bool.and_eq_true,decide_eq_true_eq] at h
  omega
theorem nm_str {H : Hp} {z : Str} (h : z.length ≤ 100) : Nm H (.str z) := ⟨⟨_,.str _⟩,⟨_,.str⟩,fun y e => by cases e; exact h⟩
def odds (l : Addr) : List V := [.str (Str.ofString ""),.str (Str.ofString "none"),.str (Str.ofString "abcdefghi"),.str (Str.ofString "aB"),.str (Str.ofString "a1"),.str (Str.ofString "a b"),.non,.int 5,.ref l,.bl true]
theorem odd_ok {H : Hp} {l : Addr} (hl : H l = some (.lst [.str (Str.ofString "a")])) : ∀ v ∈ odds l,Nm H v ∧ nmV v = false := fun v hv => by
  simp only [odds,List.mem_cons,List.not_mem_nil,or_false] at hv
  rcases hv with rfl | rfl | rfl | rfl | rfl | rfl | rfl | rfl | rfl | rfl
  · exact ⟨nm_str (by decide),by decide +kernel⟩
  · exact ⟨nm_str (by decide),by decide +kernel⟩
  · exact ⟨nm_str (by decide),by decide +kernel⟩
  · exact ⟨nm_str (by decide),by decide +kernel⟩
  · exact ⟨nm_str (by decide),by decide +kernel⟩
  · exact ⟨nm_str (by decide),by decide +kernel⟩
  · exact ⟨⟨⟨_,.non⟩,⟨_,.non⟩,fun _ e => nomatch e⟩,rfl⟩
  · exact ⟨⟨⟨_,.int _⟩,⟨_,.int⟩,fun _ e => nomatch e⟩,rfl⟩
  · exact ⟨⟨⟨_,.lst hl⟩,⟨_,Rp.l1 hl .str⟩,fun _ e => nomatch e⟩,rfl⟩
  · exact ⟨⟨⟨_,.bl _⟩,⟨_,.bl⟩,fun _ e => nomatch e⟩,rfl⟩
inductive spThing (vs : List V) (H : Hp) (Q : VK) (x_3 : XK) : Prop
  | mk : ∀ (pn nl : Addr) (n0 n1 : Int) (ws : List Str),(vs = [.ref pn,.ref nl]) → (H pn = some (.lst [.int n0,.int n1])) → (Ws H nl ws) → (∀ (x : V) (H' : Hp),Same H H' → Nm H' x → (∀ z,x = .str z → (z ∈ ws ↔ nameB z = true)) → (∀ l,x = .ref l → H l = none ∧ H' l = some (.lst [.str (Str.ofString "a")])) → Q x H') → spThing vs H Q x_3
inductive spLn (vs : List V) (H : Hp) (Q : VK) (x_3 : XK) : Prop
  | mk : ∀ (pn : Addr) (a0 a1 a2 a3 a4 : Int),(vs = [.ref pn]) → (H pn = some (.lst [.int a0,.int a1,.int a2,.int a3,.int a4])) → ((Nb a1 ∧ Nb a2 ∧ Nb a3 ∧ Nb a4)) → (∀ (y : V) (lo : Option Cs) (H' : Hp),Same H H' → LnT H' y lo → (∀ p,y = .ref p → H p = none) → Q y H') → spLn vs H Q x_3
theorem S_law_thing : FnScope ["numbers","names","some"] ["numbers","names"] (defScope (top 33)) := ⟨rfl,rfl,rfl,by decide +kernel,rfl,by decide +kernel,by decide +kernel⟩
theorem fn_law_thing (D_law_thing : Df K mg "_law_thing" (top 33)) (T : Txt mg) : Fn P w K mg base "_law_thing" ["numbers","names"] 1 spThing := by
  refine D_law_thing.fn S_law_thing (fun _ _ _ _ _ _ us hl => match us,hl with | [_,_],_ => rfl) (fun vs H Q E h => ?_) (fun f cdv A outer s H vs Q E hr h => ?_)
  · obtain ⟨pn,nl,n0,n1,ws,rfl,_⟩ := h
    rfl
  · obtain ⟨pn,nl,n0,n1,ws,rfl,en,hw,q⟩ := h
    refine ⟨_,(pss_cons (ps_if (pt_cmpR op_lt (pe_op op_mod (pe_ix ix_list (pv 0) pe_int (fun _ _ => rfl)) pe_int) pe_int (nomark _)) (pss_one (ps_ret (pe_ix ix_list (pv 1) (pe_op op_mod (pe_ix ix_list (pv 0) pe_int (fun _ _ => rfl)) (pe_callB call_len_seq (by rfl) T.z_len bt_len (pa_cons (pv 1) pa_nil))) (fun _ _ => rfl)))) pss_nil) (@pss_cons _ _ _ _ _ (@ps_set _ _ 2 _ _ _ _ S_law_thing.nd rfl (Or.inl rfl) (@pe_lstA _ _ _ _ (@pa_cons _ _ _ _ _ pe_str (@pa_cons _ _ _ _ _ pe_str (@pa_cons _ _ _ _ _ pe_str (@pa_cons _ _ _ _ _ pe_str (@pa_cons _ _ _ _ _ pe_str (@pa_cons _ _ _ _ _ pe_str (@pa_cons _ _ _ _ _ pe_non (@pa_cons _ _ _ _ _ pe_int (@pa_cons _ _ _ _ _ (@pe_lstA _ _ _ _ (@pa_cons _ _ _ _ _ pe_str pa_nil (by rfl))) (@pa_cons _ _ _ _ _ pe_bl pa_nil (by rfl)) (by rfl)) (by rfl)) (by rfl)) (by rfl)) (by rfl)) (by rfl)) (by rfl)) (by rfl)) (by rfl))) (by rfl) (by first | exact .inl rfl | exact .inr rfl | assumption)) (pss_one (ps_ret (pe_ix ix_list (pv 2) (pe_op op_mod (pe_ix ix_list (pv 0) pe_int (fun _ _ => rfl)) pe_int) (fun _ _ => rfl)))))),?_⟩
    refine ⟨_,rfl,pn,_,_,_,rfl,rfl,SqL.of en,rfl,_,_,rfl,rfl,(by show (0 : Int) < 8; decide),_,_,rfl,rfl,_,rfl,ite3 (fun h1 => ?_) (fun h1 => ?_)⟩
    · have hl : (ws.map V.str).length = ws.length := List.length_map _
      have hn := hw.ne
      obtain ⟨v,hv,mv⟩ := atI_mem (xs := ws.map V.str) (k := n1 % ((ws.map V.str).length : Int)) (Int.emod_nonneg _ (by omega)) (Int.emod_lt_of_pos _ (by omega))
      obtain ⟨z,hz,rfl⟩ := List.mem_map.mp mv
      refine ⟨_,rfl,_,rfl,pn,_,_,_,rfl,rfl,SqL.of en,rfl,_,rfl,nl,_,rfl,.inl (SqL.of hw.lst),_,_,rfl,rfl,(by show (0 : Int) < _; omega),nl,_,_,_,rfl,rfl,SqL.of hw.lst,hv,q _ H (Same.refl _) (nm_str (by have := nameB_len (hw.nm z hz); omega)) (fun z' e => ?_) (fun l e => nomatch e)⟩
      cases e
      exact ⟨fun _ => hw.nm z hz,fun _ => hz⟩
    · refine ⟨sz (by simp),fun l1 H1 s1 f1 n1' => ⟨sz (by simp),fun l2 H2 s2 f2 n2 => ?_⟩⟩
      obtain ⟨v,hv,mv⟩ := atI_mem (xs := odds l1) (k := n1 % 10) (Int.emod_nonneg _ (by decide)) (Int.emod_lt_of_pos _ (by decide))
      obtain ⟨k1,k2⟩ := odd_ok (s2 _ _ f1) v mv
      refine ⟨_,rfl,_,rfl,pn,_,_,_,rfl,rfl,SqL.of (s2 _ _ (s1 _ _ en)),rfl,_,_,rfl,rfl,(by show (0 : Int) < 10; decide),l2,odds l1,_,_,rfl,rfl,SqL.of f2,hv,q v H2 (s1.trans s2) k1 (fun z e => ?_) (fun l e => ?_)⟩
      rotate_left
      · subst e
        simp only [odds,List.mem_cons,List.not_mem_nil,or_false,V.ref.injEq,reduceCtorEq,false_or] at mv
        subst mv
        exact ⟨n1',s2 _ _ f1⟩
      subst e
      have k2 : nameB z = false := k2
      exact ⟨(fun h => by rw [hw.nm z h] at k2; cases k2),(fun h => by rw [h] at k2; cases k2)⟩
theorem S_law_line : FnScope ["numbers","corners","some"] ["numbers"] (defScope (top 34)) := ⟨rfl,rfl,rfl,by decide +kernel,rfl,by decide +kernel,by decide +kernel⟩
theorem fn_law_line (D_law_line : Df K mg "_law_line" (top 34)) (F_law_corners : Fn P w K mg base "_law_corners" ["numbers","most"] 1 spCor) (T : Txt mg) : Fn P w K mg base "_law_line" ["numbers"] 2 spLn := by
  refine D_law_line.fn S_law_line (fun _ _ _ _ _ _ us hl => match us,hl with | [_],_ => rfl) (fun vs H Q E h => ?_) (fun f cdv A outer s H vs Q E hr h => ?_)
  · obtain ⟨pn,a0,a1,a2,a3,a4,rfl,_⟩ := h
    rfl
  · obtain ⟨pn,a0,a1,a2,a3,a4,rfl,en,⟨b1,b2,b3,b4⟩,q⟩ := h
    refine ⟨_,(pss_cons (ps_set (i := 1) S_law_line.nd rfl (Or.inl rfl) (pe_fn F_law_corners (hr.mono (by decide)) (by rfl) (pa_cons (pe_slice sl_listA (pv 0) (po_some pe_int) po_none) (pa_cons pe_int pa_nil)))) (@pss_cons _ _ _ _ _ (@ps_set _ _ 2 _ _ _ _ S_law_line.nd rfl (Or.inl rfl) (@pe_lstA _ _ _ _ (@pa_cons _ _ _ _ _ (@pe_lstA _ _ _ _ pa_nil) (@pa_cons _ _ _ _ _ (pe_op op_repA (pv 1) pe_int) (@pa_cons _ _ _ _ _ (@pe_lstA _ _ _ _ (@pa_cons _ _ _ _ _ (@pe_tupA _ _ _ _ _ (@pa_cons _ _ _ _ _ pe_int (@pa_cons _ _ _ _ _ (pe_op op_pow pe_int pe_int) pa_nil (by rfl)) (by rfl))) pa_nil (by rfl))) (@pa_cons _ _ _ _ _ (pe_callTy call_tuple_of (by rfl) T.z_tuple bt_tuple (pa_cons (pv 1) pa_nil)) (@pa_cons _ _ _ _ _ pe_non (@pa_cons _ _ _ _ _ (@pe_lstA _ _ _ _ (@pa_cons _ _ _ _ _ (@pe_tupA _ _ _ _ _ (@pa_cons _ _ _ _ _ pe_int pa_nil (by rfl))) pa_nil (by rfl))) pa_nil (by rfl)) (by rfl)) (by rfl)) (by rfl)) (by rfl)) (by rfl))) (by rfl) (by first | exact .inl rfl | exact .inr rfl | assumption)) (pss_cons (ps_if (pt_cmpR op_eq (pe_op op_mod (pe_ix ix_list (pv 0) pe_int (fun _ _ => rfl)) pe_int) pe_int (nomark _)) (pss_one (ps_ret (pe_ix ix_list (pv 2) (pe_op op_mod (pe_ix ix_list (pv 0) pe_int (fun _ _ => rfl)) pe_int) (fun _ _ => rfl)))) pss_nil) (pss_one (ps_ret (pv 1)))))),?_⟩
    refine ⟨_,rfl,_,rfl,pn,_,rfl,SqL.of en,fun p1 H1 s1 f1 n1 => ⟨p1,a1,a2,a3,a4,rfl,f1,⟨b1,b2,b3,b4⟩,fun lc qs H2 s2 n2 L h4 => ?_⟩⟩
    have hq := L.len
    have S2 := s1.trans s2
    have nc : H lc = none := Same.free s1 n2
    refine ⟨sz (by simp),fun l3 H3 s3 f3 n3 => ⟨_,rfl,lc,_,_,rfl,rfl,s3 _ _ L.at_.lst,by decide,by decide,?_,fun l4 H4 s4 f4 n4 => ⟨_,_,rfl,rfl,⟨by decide,by decide,by decide⟩,sz (by simp),fun t5 H5 s5 f5 n5 => ⟨sz (by simp),fun l6 H6 s6 f6 n6 => ⟨_,rfl,lc,_,rfl,.inl ⟨SqL.of (s6 _ _ (s5 _ _ (s4 _ _ (s3 _ _ L.at_.lst)))),fun t7 n7 => ⟨sz (by simp),fun t8 H8 s8 f8 n8 => ⟨sz (by simp),fun l9 H9 s9 f9 n9 => ⟨sz (by simp),fun lS HS sS fS nS => ?_⟩⟩⟩⟩⟩⟩⟩⟩⟩
    · rw [sizeLine_eq,List.length_map]
      show qs.length * 11 ≤ 16777216
      omega
    have s7 : Same H6 (upd H6 t7 (.tup (qs.map fun q => V.ref q.1))) := Same.new n7
    have A9 : Same H9 HS := sS
    have A8 : Same H8 HS := s9.trans A9
    have A7 : Same (upd H6 t7 (.tup (qs.map fun q => V.ref q.1))) HS := s8.trans A8
    have A6 : Same H6 HS := s7.trans A7
    have A5 := s6.trans A6
    have A4 := s5.trans A5
    have A3 := s4.trans A4
    have A2 := s3.trans A3
    have AL := L.mono A2
    have S := S2.trans A2
    refine ⟨_,rfl,pn,_,_,_,rfl,rfl,SqL.of (S _ _ en),rfl,_,_,rfl,rfl,(by show (0 : Int) < 8; decide),rfl,_,rfl,ite3 (fun h1 => ?_) (fun h1 => ?_)⟩
    · have hv0 := Int.emod_nonneg a1 (show (6 : Int) ≠ 0 by decide)
      have hv1 := Int.emod_lt_of_pos a1 (show (0 : Int) < 6 by decide)
      obtain ⟨v,hv,mv⟩ := atI_mem (xs := [V.ref l3,.ref l4,.ref l6,.ref t7,.non,.ref l9]) hv0 hv1
      refine ⟨_,rfl,_,rfl,pn,_,_,_,rfl,rfl,SqL.of (S _ _ en),rfl,_,_,rfl,rfl,(by show (0 : Int) < 6; decide),lS,_,_,v,rfl,rfl,SqL.of fS,hv,?_⟩
      simp only [List.mem_cons,List.not_mem_nil,or_false] at mv
      have B2 : Same H H2 := S2
      have B3 := B2.trans s3
      have B4 := B3.trans s4
      have B5 := B4.trans s5
      have B6 := B5.trans s6
      have B7 := B6.trans s7
      have B8 := B7.trans s8
      have thq : ∀ y ∈ (qs.map fun q => V.ref q.1),∃ t a b,y = .ref t ∧ HS t = some (.tup [.int a,.int b]) := fun y hy => by
        obtain ⟨q',hq',rfl⟩ := List.mem_map.mp hy
        exact ⟨q'.1,_,_,rfl,(AL.at_.crn q' hq').1⟩
      rcases mv with rfl | rfl | rfl | rfl | rfl | rfl
      · exact q _ none HS S (.len (A3 _ _ f3) (.inl rfl) (by simp) fun y hy => nomatch hy) fun p e => by cases e; exact Same.free S2 n3
      · have hlen : (List.replicate (11 : Int).toNat (qs.map fun q => V.ref q.1)).flatten.length = 11 * qs.length := by
          rw [len_rep,List.length_map]
          rfl
        refine q _ none HS S (.len (A4 _ _ f4) (.inr (by rw [hlen]; omega)) (by rw [hlen]; omega) fun y hy => ?_) fun p e => by cases e; exact Same.free B3 n4
        obtain ⟨ys,h1,h2⟩ := List.mem_flatten.mp hy
        rw [List.eq_of_mem_replicate h1] at h2
        exact thq y h2
      · exact q _ none HS S (.one (A6 _ _ f6) (A5 _ _ f5) (.inr (by decide +kernel))) fun p e => by cases e; exact Same.free B5 n6
      · exact q _ none HS S (.tup (A7 _ _ upd_same)) fun p e => by cases e; exact Same.free B6 n7
      · exact q _ none HS S .non fun p e => nomatch e
      · exact q _ none HS S (.one (A9 _ _ f9) (A8 _ _ f8) (.inl rfl)) fun p e => by cases e; exact Same.free B8 n9
    · exact ⟨_,rfl,q _ _ HS S (.ok AL h4) fun p e => by cases e; exact nc⟩
def sgn (x : Int) : Nat := 97 + (x % 26).toNat
theorem sgn_at (x : Int) : atI ABC.cps.toList (x % 26) = some (sgn x) := by
  have h0 := Int.emod_nonneg x (show (26 : Int) ≠ 0 by decide)
  have h1 := Int.emod_lt_of_pos x (show (0 : Int) < 26 by decide)
  have key : ∀ i : Nat,i < 26 → ABC.cps.toList[i]? = some (97 + i) := by decide +kernel
  have e : x % 26 = (((x % 26).toNat : Nat) : Int) := by omega
  rw [e]
  exact atI_nat (key _ (by omega))
theorem sgn_in (x : Int) : Txt.contains ABC ⟨#[sgn x]⟩ = true := by
  have h1 := Int.emod_lt_of_pos x (show (0 : Int) < 26 by decide)
  have h0 := Int.emod_nonneg x (show (26 : Int) ≠ 0 by decide)
  have key : ∀ i : Nat,i < 26 → Txt.contains ABC ⟨#[97 + i]⟩ = true := by decide +kernel
  exact key _ (by omega)
theorem sgn_ne (x : Int) : sgn x ≠ sgn (x + 6) := by
  unfold sgn
  have h0 := Int.emod_nonneg x (show (26 : Int) ≠ 0 by decide)
  have h1 := Int.emod_nonneg (x + 6) (show (26 : Int) ≠ 0 by decide)
  omega
structure LW (w : Str) (n : Nat) : Prop where
  len : w.cps.toList.length = n
  abc : ∀ c ∈ w.cps.toList,Txt.contains ABC ⟨#[c]⟩ = true
theorem cps_app (a b : Str) : (a ++ b).cps.toList = a.cps.toList ++ b.cps.toList := by
  show (a.cps ++ b.cps).toList = _
  exact Array.toList_append
theorem LW.snoc {w : Str} {n : Nat} (h : LW w n) (x : Int) : LW (w ++ ⟨#[sgn x]⟩) (n + 1) := by
  refine ⟨by rw [cps_app,List.length_append,h.len]; rfl,fun c hc => ?_⟩
  rw [cps_app] at hc
  rcases List.mem_append.mp hc with hc | hc
  · exact h.abc c hc
  · rw [List.mem_singleton.mp hc]
    exact sgn_in x
theorem LW.sz {w : Str} {n : Nat} (h : LW w n) : w.length = n := by
  rw [← h.len]
  simp [Str.length]
theorem LW.name {w : Str} {n : Nat} (h : LW w n) (h1 : 1 ≤ n) (h8 : n ≤ 8) (hn : V.str w ≠ V.str (Str.ofString "none")) : nameB w = true := by
  have := h.sz
  unfold nameB
  rw [this,decide_eq_true (by omega : (1 : Int) ≤ (n : Int)),decide_eq_true (by omega : (n : Int) ≤ 8),decide_eq_false hn,List.all_eq_true.mpr h.abc]
  rfl
inductive spNms (vs : List V) (H : Hp) (Q : VK) (x_3 : XK) : Prop
  | mk : ∀ n : Int,(vs = [.int n]) → ((0 ≤ n ∧ n < 10 ^ 30)) → (∀ (nl : Addr) (ws : List Str) (H' : Hp),Same H H' → H nl = none → Ws H' nl ws → Q (.ref nl) H') → spNms vs H Q x_3
structure Dn (ws : List Str) (at_ size : Nat) (S : Int) : Prop where
  all : ∀ w ∈ ws,∃ m,1 ≤ m ∧ m ≤ 8 ∧ LW w m
  even : ∀ (i : Nat) w,i % 2 = 0 → ws[i]? = some w → LW w size ∧ w.cps.toList[at_]? = some (sgn (S + 3 * (i : Int)))
theorem Dn.set {ws : List Str} {at_ size i : Nat} {S x : Int} {w : Str} (d : Dn ws at_ size S) (hw : LW w size) (h1 : 1 ≤ size) (h8 : size < 8) (hi : i % 2 = 1) : Dn (ws.set i (w ++ ⟨#[sgn x]⟩)) at_ size S := by
  refine ⟨fun v hv => ?_,fun j v hj hv => ?_⟩
  · rcases List.mem_or_eq_of_mem_set hv with h | h
    · exact d.all v h
    · rw [h]
      exact ⟨size + 1,by omega,by omega,hw.snoc x⟩
  · rw [List.getElem?_set_ne (by intro z; omega)] at hv
    exact d.even j v hj hv
theorem Dn.ws {ws : List Str} {at_ size : Nat} {S : Int} (d : Dn ws at_ size S) (h8 : ws.length = 8) : 0 < (ws.filter fun w => !decide (V.str w = V.str (Str.ofString "none"))).length ∧ ∀ w ∈ ws.filter (fun w => !decide (V.str w = V.str (Str.ofString "none"))),nameB w = true := by
  refine ⟨?_,fun w hw => ?_⟩
  · have g0 : ws[0]? = some ws[0] := List.getElem?_eq_getElem (by omega)
    have g2 : ws[2]? = some ws[2] := List.getElem?_eq_getElem (by omega)
    have e0 := (d.even 0 _ rfl g0).2
    have e2 := (d.even 2 _ rfl g2).2
    refine List.length_pos_iff.mpr fun z => ?_
    have z0 := List.filter_eq_nil_iff.mp z _ (List.mem_of_getElem? g0)
    have z2 := List.filter_eq_nil_iff.mp z _ (List.mem_of_getElem? g2)
    have y0 : ws[0] = Str.ofString "none" := by simpa using z0
    have y2 : ws[2] = Str.ofString "none" := by simpa using z2
    rw [y0] at e0
    rw [y2,e0] at e2
    exact sgn_ne (S + 3 * ((0 : Nat) : Int)) (by rw [Option.some.inj e2]; congr 1; omega)
  · obtain ⟨h1,h2⟩ := List.mem_filter.mp hw
    obtain ⟨m,a,b,c⟩ := d.all w h1
    exact c.name a b (by simpa using h2)
theorem map_filt {ws : List Str} : ((ws.map V.str).filter fun v => !decide (v = V.str (Str.ofString "none"))) = (ws.filter fun w => !decide (V.str w = V.str (Str.ofString "none"))).map V.str := by
  rw [List.filter_map]
  rfl
theorem S_law_names : FnScope ["number","signs","size","at","names","k","word","j","step"] ["number"] (defScope (top 30)) := ⟨rfl,rfl,rfl,by decide +kernel,rfl,by decide +kernel,by decide +kernel⟩
theorem fn_law_names (D_law_names : Df K mg "_law_names" (top 30)) (T : Txt mg) : Fn P w K mg base "_law_names" ["number"] 1 spNms := by
  refine D_law_names.fn S_law_names (fun _ _ _ _ _ _ us hl => match us,hl with | [_],_ => rfl) (fun vs H Q E h => ?_) (fun f cdv A outer s H vs Q E hr h => ?_)
  · obtain ⟨n,rfl,_⟩ := h
    rfl
  · obtain ⟨n,rfl,⟨n0,n1⟩,q⟩ := h
    have CN : CompM (cxOf CX0 P w K mg base ["number","signs","size","at","names","k","word","j","step"] "_law_names" (defScope (top 30)) f cdv A outer s H E).nox (lcA (top 30) 0) [] ["name"] [] :=
      ⟨by rfl,rfl,by decide +kernel,by decide +kernel,(fun x hx => by simp only [List.mem_cons,List.not_mem_nil,or_false] at hx; rcases hx with rfl <;> exact rfl),(fun p hp => nomatch hp),by rfl,by decide +kernel,(fun p hp => nomatch hp),⟨rfl,rfl⟩,rfl⟩
    have m0 := Int.emod_nonneg n (show (8 : Int) ≠ 0 by decide)
    have m1 := Int.emod_lt_of_pos n (show (0 : Int) < 8 by decide)
    have b5 : ∀ k : Int,0 < k → k < 1000000 → bits k ≤ 8000 := fun k a b => bits_le (bits_of (n := 50) (by show _ < 1125899906842624; omega)) (by decide)
    have R : ∃ u : TS,PSs (cxOf CX0 P w K mg base ["number","signs","size","at","names","k","word","j","step"] "_law_names" (defScope (top 30)) f cdv A outer s H E).nox ((defBody (top 30)).drop 6) u ∧ ∀ (ln : Addr) (ws : List Str) (at_ size : Nat) (S : Int) (z2 z3 z5 z6 z7 z8 : Option V) (H' : Hp),Same H H' → H ln = none → H' ln = some (.lst (ws.map V.str)) → ws.length = 8 → Dn ws at_ size S → u { nx := fun _ H' => Q .non H',rt := Q } [some (.int n),some (.str ABC),z2,z3,some (.ref ln),z5,z6,z7,z8] H' := by
      refine ⟨_,(pss_one (ps_ret (pe_compG rfl CN (pi_list (pv 4)) (fun fp s₀ H₀ => (pg_name (i := 0) CN.nd rfl (Or.inl rfl) (Or.inr rfl))) (fun fp s₀ H₀ => (pts_one (pt_cmpR op_ne (pv 0) pe_str (nomark _)))) (fun fp s₀ H₀ => (pv 0))))),fun ln ws at_ size S z2 z3 z5 z6 z7 z8 H' s' nl f' h8 d => ?_⟩
      refine ⟨_,rfl,ln,rfl,⟨_,SqL.of f'⟩,comp_lstP f' (by rw [List.length_map]; omega) (fun v => !decide (v = V.str (Str.ofString "none"))) id (fun v H2 τ Kc Kn hv s2 hτ k1 k2 => ?_) (fun l2 H2 hl2 s2 e2 => ?_)⟩
      · obtain ⟨w,hw,rfl⟩ := List.mem_map.mp hv
        obtain ⟨τ0,rfl⟩ := List.length_eq_one_iff.mp hτ
        refine ⟨⟨[some (.str w)],rfl,rfl⟩,_,rfl,rfl,_,rfl,ite3 (fun h1 => ?_) (fun h1 => ?_)⟩
        · exact ⟨_,rfl,k1 h1 _ (Same.refl _)⟩
        · exact k2 h1 _ (Same.refl _)
      · obtain ⟨w1,w2⟩ := d.ws h8
        refine q l2 _ H2 (s'.trans s2) (Same.free s' hl2) ⟨by rw [e2,List.map_id,map_filt],w1,?_,w2⟩
        have := List.length_filter_le (fun w => !decide (V.str w = V.str (Str.ofString "none"))) ws
        omega
    obtain ⟨u,hu,hR⟩ := R
    refine ⟨_,(pss_cons (ps_set (i := 1) S_law_names.nd rfl (Or.inl rfl) pe_str) (pss_cons (ps_set (i := 2) S_law_names.nd rfl (Or.inl rfl) (pe_op op_add pe_int (pe_op op_mod (pv 0) pe_int))) (pss_cons (ps_set (i := 3) S_law_names.nd rfl (Or.inl rfl) (pe_op op_mod (pe_op op_fdivP (pv 0) pe_int) (pv 2))) (pss_cons (ps_set (i := 4) S_law_names.nd rfl (Or.inl rfl) (pe_lstA pa_nil)) (pss_cons (ps_for PassesOwn.never rfl (pi_range1 rfl T.z_range (pa_cons pe_int pa_nil)) (pg_name (i := 5) S_law_names.nd rfl (Or.inl rfl)) (pss_cons (ps_set (i := 6) S_law_names.nd rfl (Or.inl rfl) pe_str) (pss_cons (ps_for PassesOwn.never rfl (pi_range1 rfl T.z_range (pa_cons (pv 2) pa_nil)) (pg_name (i := 7) S_law_names.nd rfl (Or.inl rfl)) (pss_cons (ps_set (i := 8) S_law_names.nd rfl (Or.inl rfl) (pe_op op_add (pe_op op_fdivP (pv 0) pe_int) (pe_op op_mulX pe_int (pv 7)))) (pss_cons (ps_if (pt_cmpR op_eq (pv 7) (pv 3) (nomark _)) (pss_one (ps_set (i := 8) S_law_names.nd rfl (Or.inl rfl) (pe_op op_add (pv 8) (pe_op op_mulX pe_int (pv 5))))) pss_nil) (pss_one (ps_set (i := 6) S_law_names.nd rfl (Or.inl rfl) (pe_op op_add_str (pv 6) (pe_ix ix_str (pv 1) (pe_op op_mod (pv 8) pe_int) (fun _ _ => rfl)))))))) (pss_one (ps_expr (pe_bm PySem.F.plainAttrs_list PySem.F.slot_list_append PySem.F.type_list_append mt_appendA (pv 4) (pa_cons (pv 6) pa_nil))))))) (pss_cons (ps_if (pw_and (pt_cmpR op_eq (pe_op op_mod (pe_op op_fdivP (pv 0) pe_int) pe_int) pe_int (nomark _)) (pw_and1 (pt_cmpR op_lt (pv 2) pe_int (nomark _)))).pt (pss_one (ps_for PassesOwn.never rfl (pi_rangeO rfl T.z_range (pa_cons pe_int (pa_cons pe_int (pa_cons pe_int pa_nil)))) (pg_name (i := 5) S_law_names.nd rfl (Or.inl rfl)) (pss_one (ps_asg (pe_op op_add_str (pe_ix ix_list (pv 4) (pe_op op_sub (pv 5) pe_int) (fun _ _ => rfl)) (pe_ix ix_str (pv 1) (pe_op op_mod (pe_op op_fdivP (pv 0) pe_int) pe_int) (fun _ _ => rfl))) (pg_sub (pv 4) (pv 5) set_listA))))) pss_nil) hu)))))),?_⟩
    refine ⟨_,rfl,_,_,rfl,rfl,(by show (0 : Int) < 8; decide),_,_,rfl,rfl,?_⟩
    generalize hsz : 1 + n % 8 = szi
    obtain ⟨size,rfl⟩ : ∃ k : Nat,szi = (k : Int) := ⟨szi.toNat,by omega⟩
    have s1 : 1 ≤ size := by omega
    have s8 : size ≤ 8 := by omega
    have a0 := Int.emod_nonneg (n / 8) (show (size : Int) ≠ 0 by omega)
    have a1 := Int.emod_lt_of_pos (n / 8) (show (0 : Int) < (size : Int) by omega)
    refine ⟨_,rfl,_,_,rfl,rfl,⟨by decide,b5 8 (by decide) (by decide)⟩,_,rfl,_,_,rfl,rfl,(by show (0 : Int) < (size : Int); omega),?_⟩
    generalize n / 8 % (size : Int) = ati at *
    obtain ⟨at_,rfl⟩ : ∃ k : Nat,ati = (k : Int) := ⟨ati.toNat,by omega⟩
    refine ⟨sz (by simp),fun ln H1 q1 f1 n1 => ?_⟩
    refine ⟨_,rfl,by decide,by decide,?_⟩
    refine for_range (fun i σ H' => ∃ (ws : List Str) (z5 z6 z7 z8 : Option V),σ = [some (.int n),some (.str ABC),some (.int (size : Int)),some (.int (at_ : Int)),some (.ref ln),z5,z6,z7,z8] ∧ Same H H' ∧ H' ln = some (.lst (ws.map V.str)) ∧ ws.length = i ∧ ∀ (j : Nat) w,ws[j]? = some w → LW w size ∧ w.cps.toList[at_]? = some (sgn (n / 64 + 7 * (at_ : Int) + 3 * (j : Int)))) ⟨[],_,_,_,_,rfl,q1,f1,rfl,fun j w h => by simp at h⟩ ?_ ?_
    · rintro i σ H' hi ⟨ws,z5,z6,z7,z8,rfl,sm,hl',hlen,hws⟩
      refine ⟨_,rfl,_,rfl,by omega,by omega,?_⟩
      rw [Int.toNat_natCast]
      refine for_range (fun j σ H2 => ∃ (w : Str) (z7 z8 : Option V),σ = [some (.int n),some (.str ABC),some (.int (size : Int)),some (.int (at_ : Int)),some (.ref ln),some (.int (0 + (i : Int))),some (.str w),z7,z8] ∧ H2 = H' ∧ LW w j ∧ (at_ < j → w.cps.toList[at_]? = some (sgn (n / 64 + 7 * (at_ : Int) + 3 * (i : Int))))) ⟨_,_,_,rfl,rfl,⟨rfl,fun c h => nomatch h⟩,fun h => nomatch h⟩ ?_ ?_
      · rintro j σ H2 hj ⟨w,z7,z8,rfl,rfl,hw,hat⟩
        have hABC : ABC.length ≤ sizeLine := by rw [sizeLine_eq]; decide +kernel
        have hLen : ∀ c : Nat,w.length + (Str.length ⟨#[c]⟩) ≤ sizeLine := fun c => by
          rw [sizeLine_eq,hw.sz]
          show j + 1 ≤ 16777216
          omega
        refine ⟨_,rfl,_,_,rfl,rfl,⟨by decide,b5 64 (by decide) (by decide)⟩,_,rfl,_,_,rfl,rfl,CM.l ⟨by decide,by decide⟩,_,_,rfl,rfl,?_⟩
        have hlast : ∀ x : Int,at_ = j → (w ++ ⟨#[sgn x]⟩).cps.toList[at_]? = some (sgn x) := fun x e => by
          rw [cps_app,List.getElem?_append_right (by rw [hw.len]; omega),hw.len,e,Nat.sub_self]
          rfl
        have hold : ∀ x : Int,at_ < j → (w ++ ⟨#[sgn x]⟩).cps.toList[at_]? = w.cps.toList[at_]? := fun x e => by
          rw [cps_app,List.getElem?_append_left (by rw [hw.len]; omega)]
        refine ⟨_,rfl,_,rfl,rfl,_,rfl,ite3 (fun c1 => ?_) (fun c1 => ?_)⟩
        · have e1 : j = at_ := by
            have : 0 + (j : Int) = (at_ : Int) := by simpa using c1
            omega
          refine ⟨_,rfl,_,rfl,_,_,rfl,rfl,CM.l ⟨by decide,by decide⟩,_,_,rfl,rfl,?_⟩
          refine ⟨_,rfl,_,rfl,_,rfl,_,_,rfl,rfl,(by show (0 : Int) < 26; decide),ABC,_,sgn (n / 64 + 7 * (0 + (j : Int)) + 3 * (0 + (i : Int))),rfl,rfl,hABC,sgn_at (n / 64 + 7 * (0 + (j : Int)) + 3 * (0 + (i : Int))),_,_,rfl,rfl,hLen _,_,_,_,rfl,rfl,hw.snoc _,fun h => ?_⟩
          rw [hlast _ e1.symm]
          refine congrArg (fun z => some (sgn z)) ?_
          omega
        · have e1 : j ≠ at_ := by
            have : ¬ 0 + (j : Int) = (at_ : Int) := by simpa using c1
            omega
          refine ⟨_,rfl,_,rfl,_,rfl,_,_,rfl,rfl,(by show (0 : Int) < 26; decide),ABC,_,sgn (n / 64 + 7 * (0 + (j : Int))),rfl,rfl,hABC,sgn_at (n / 64 + 7 * (0 + (j : Int))),_,_,rfl,rfl,hLen _,_,_,_,rfl,rfl,hw.snoc _,fun h => ?_⟩
          rw [hold _ (by omega)]
          exact hat (by omega)
      · rintro σ H2 ⟨w,z7,z8,rfl,rfl,hw,hat⟩
        refine ⟨_,rfl,.inl ⟨rfl,_,SqL.of hl'⟩,_,rfl,ln,_,_,rfl,rfl,hl',small1000 (by rw [List.length_map]; omega),fun H3 u3 => ?_⟩
        refine ⟨ws ++ [w],_,_,_,_,rfl,u3.same sm n1,by rw [u3.now,List.map_append]; rfl,by simp [hlen],fun j v hv => ?_⟩
        rcases Nat.lt_trichotomy j ws.length with h | h | h
        · rw [List.getElem?_append_left h] at hv
          exact hws j v hv
        · rw [h,List.getElem?_append_right (Nat.le_refl _),Nat.sub_self] at hv
          cases hv
          rw [h,hlen]
          exact ⟨hw,hat (by omega)⟩
        · rw [List.getElem?_eq_none (by simp; omega)] at hv
          cases hv
    · rintro σ H' ⟨ws,z5,z6,z7,z8,rfl,sm,hl',hlen,hws⟩
      have d : Dn ws at_ size (n / 64 + 7 * (at_ : Int)) := ⟨fun w hw => by
          obtain ⟨j,hj⟩ := List.mem_iff_getElem?.mp hw
          exact ⟨size,s1,s8,(hws j w hj).1⟩,fun i w _ hw => hws i w hw⟩
      have hABC : ABC.length ≤ sizeLine := by rw [sizeLine_eq]; decide +kernel
      refine ⟨_,rfl,_,_,rfl,rfl,⟨by decide,b5 2000 (by decide) (by decide)⟩,_,_,rfl,rfl,(by show (0 : Int) < 2; decide),rfl,_,rfl,ite3 (fun c1 => ?_) (fun c1 => iteF (hR ln ws at_ size _ _ _ _ _ _ _ H' sm n1 hl' hlen d))⟩
      refine ⟨_,rfl,_,_,rfl,rfl,_,rfl,ite3 (fun c2 => ?_) (fun c2 => hR ln ws at_ size _ _ _ _ _ _ _ H' sm n1 hl' hlen d)⟩
      have c2' : size < 8 := by
        have : (size : Int) < 8 := by simpa using c2
        omega
      refine ⟨8,rfl,by decide,by decide,for_rangeO (fun i σ H2 => ∃ (vs : List Str) (z5 z6 z7 z8 : Option V),σ = [some (.int n),some (.str ABC),some (.int (size : Int)),some (.int (at_ : Int)),some (.ref ln),z5,z6,z7,z8] ∧ Same H H2 ∧ H2 ln = some (.lst (vs.map V.str)) ∧ vs.length = 8 ∧ Dn vs at_ size (n / 64 + 7 * (at_ : Int))) ⟨ws,_,_,_,_,rfl,sm,hl',hlen,d⟩ ?_ ?_⟩
      · rintro i σ H2 hi ⟨vs,z5,z6,z7,z8,rfl,sm2,hl2,hlen2,d2⟩
        have hi4 : i < 4 := hi
        have hj : vs[2 * i]? = some vs[2 * i] := List.getElem?_eq_getElem (by omega)
        have lw := (d2.even (2 * i) _ (by omega) hj).1
        have hat : atI (vs.map V.str) (1 + (i : Int) * 2 - 1) = some (.str vs[2 * i]) := by
          rw [show (1 + (i : Int) * 2 - 1) = ((2 * i : Nat) : Int) by omega]
          exact atI_nat (by rw [List.getElem?_map,hj]; rfl)
        have hix : ixN (vs.map V.str).length (1 + (i : Int) * 2) = some (2 * i + 1) := by
          rw [List.length_map,hlen2]
          unfold ixN
          rw [if_pos (by omega),if_pos (by omega)]
          congr 1
          omega
        refine ⟨_,rfl,_,rfl,_,_,rfl,rfl,ln,_,_,_,rfl,rfl,SqL.of hl2,hat,_,rfl,_,rfl,_,_,rfl,rfl,⟨by decide,b5 4000 (by decide) (by decide)⟩,_,_,rfl,rfl,(by show (0 : Int) < 26; decide),ABC,_,sgn (n / 4000),rfl,rfl,hABC,sgn_at (n / 4000),_,_,rfl,rfl,?_,_,rfl,_,rfl,ln,_,_,2 * i + 1,rfl,rfl,hl2,hix,fun H3 u3 => ?_⟩
        · rw [sizeLine_eq,lw.sz]
          show size + 1 ≤ 16777216
          omega
        · exact ⟨vs.set (2 * i + 1) (vs[2 * i] ++ ⟨#[sgn (n / 4000)]⟩),_,_,_,_,rfl,u3.same sm2 n1,by rw [u3.now,List.map_set],by rw [List.length_set]; exact hlen2,d2.set lw s1 c2' (by omega)⟩
      · rintro σ H2 ⟨vs,z5,z6,z7,z8,rfl,sm2,hl2,hlen2,d2⟩
        exact hR ln vs at_ size _ _ _ _ _ _ _ H2 sm2 n1 hl2 hlen2 d2
def Ms (b e p : Nat → Addr) (kl : Addr) : List Addr := [kl,b 0,e 0,p 0,b 1,e 1,p 1]
theorem two {w : Nat} (h : w < 2) : w = 0 ∨ w = 1 := by omega
theorem Ms.b {b e p : Nat → Addr} {kl : Addr} {w : Nat} (h : w < 2) : b w ∈ Ms b e p kl := by rcases two h with rfl | rfl <;> simp [Ms]
theorem Ms.e {b e p : Nat → Addr} {kl : Addr} {w : Nat} (h : w < 2) : e w ∈ Ms b e p kl := by rcases two h with rfl | rfl <;> simp [Ms]
theorem Ms.p {b e p : Nat → Addr} {kl : Addr} {w : Nat} (h : w < 2) : p w ∈ Ms b e p kl := by rcases two h with rfl | rfl <;> simp [Ms]
theorem Ms.k {b e p : Nat → Addr} {kl : Addr} : kl ∈ Ms b e p kl := by simp [Ms]
structure Sep (b e p : Nat → Addr) (kl : Addr) : Prop where
  bb : ∀ i j,i < 2 → j < 2 → i ≠ j → b i ≠ b j
  ee : ∀ i j,i < 2 → j < 2 → i ≠ j → e i ≠ e j
  pp : ∀ i j,i < 2 → j < 2 → i ≠ j → p i ≠ p j
  be : ∀ i j,i < 2 → j < 2 → b i ≠ e j
  bp : ∀ i j,i < 2 → j < 2 → b i ≠ p j
  ep : ∀ i j,i < 2 → j < 2 → e i ≠ p j
  kb : ∀ j,j < 2 → kl ≠ b j
  ke : ∀ j,j < 2 → kl ≠ e j
  kp : ∀ j,j < 2 → kl ≠ p j
structure Side (M : List Addr) (C : Addr) (H : Hp) (b e p k : Addr) (kept : Bk) (past : List Bk) : Prop where
  bk : BookR M C H b e kept past
  bo : Bo M H k kept
  pa : Pa M H p past
  gd : Good kept
  gp : ∀ q ∈ past,Good q
theorem Side.re {M M' : List Addr} {C : Addr} {H : Hp} {b e p k : Addr} {kept : Bk} {past : List Bk} (L : Side M C H b e p k kept past) (hM : ∀ a ∈ M',a ∈ M ∨ H a = none) : Side M' C H b e p k kept past := ⟨L.bk.re hM,L.bo.re hM,L.pa.re hM,L.gd,L.gp⟩
theorem Side.go {M N : List Addr} {C : Addr} {H H' : Hp} {b e p k : Addr} {kept : Bk} {past : List Bk} (L : Side M C H b e p k kept past) (bt : But N H H') (hN : ∀ a ∈ N,a ∈ M ∨ H a = none) (hb : b ∉ N) (he : e ∉ N) (hp : p ∉ N) : Side M C H' b e p k kept past :=
  ⟨L.bk.go bt hN hb he,L.bo.go bt hN,L.pa.go bt hN hp,L.gd,L.gp⟩
theorem Side.mono {M : List Addr} {C : Addr} {H H' : Hp} {b e p k : Addr} {kept : Bk} {past : List Bk} (L : Side M C H b e p k kept past) (s : Same H H') : Side M C H' b e p k kept past := L.go (N := []) (.of s) (by simp) (by simp) (by simp) (by simp)
theorem at_w {f : Nat → Addr} {w : Nat} (h : w < 2) : atI [V.ref (f 0),V.ref (f 1)] (w : Int) = some (.ref (f w)) := by rcases two h with rfl | rfl <;> rfl
theorem ix_w {f : Nat → Addr} {w : Nat} (h : w < 2) : ixN [V.ref (f 0),V.ref (f 1)].length (w : Int) = some w := by rcases two h with rfl | rfl <;> rfl
def put2 {α : Type} (f : Nat → α) (w : Nat) (a : α) : Nat → α := fun j => if j = w then a else f j
theorem set_w {f : Nat → Addr} {w : Nat} {a : Addr} (h : w < 2) : [V.ref (f 0),V.ref (f 1)].set w (.ref a) = [V.ref (put2 f w a 0),V.ref (put2 f w a 1)] := by rcases two h with rfl | rfl <;> rfl
theorem put2_same {α : Type} {f : Nat → α} {w : Nat} {a : α} : put2 f w a w = a := if_pos rfl
theorem put2_ne {α : Type} {f : Nat → α} {w j : Nat} {a : α} (h : j ≠ w) : put2 f w a j = f j := if_neg h
theorem Good.nil : Good [] := ⟨by simp,by simp,(fun _ h => nomatch h),(fun _ h => nomatch h)⟩
theorem nd_strk {kept : Bk} {n : Str} (h : (kept.map (·.1)).Nodup) : ((strk kept n).map (·.1)).Nodup := by
  unfold strk
  exact h.sublist (List.Sublist.map _ List.filter_sublist)
theorem trn_fst (kept : Bk) (n : Str) : (trn kept n).map (·.1) = kept.map (·.1) := by
  unfold trn
  rw [List.map_map]
  refine List.map_congr_left fun r _ => ?_
  show (if r.1 = n then (r.1,r.2.reverse) else r).1 = r.1
  split <;> rfl
theorem deed_good {way : Nat} {x : V} {lo : Option Cs} {kept : Bk} {past : List Bk} (hw : way ≤ 5) (g : Good kept) (gp : ∀ q ∈ past,Good q) (hl : ∀ cs,lo = some cs → cs.length ≤ 10) (h : (deed way x lo kept past).1 = 0) :
    Good (deed way x lo kept past).2.1 ∧ (∀ q ∈ (deed way x lo kept past).2.2,Good q) ∧ (deed way x lo kept past).2.2.length ≤ past.length + 1 := by
  have snoc : ∀ q ∈ past ++ [kept],Good q := fun q hq => by
    rcases List.mem_append.mp hq with hq | hq
    · exact gp q hq
    · rw [List.mem_singleton.mp hq]; exact g
  by_cases h3 : way < 3
  · obtain ⟨n,cs,rfl,rfl,hn,hm,h6,ed⟩ := deed_put0 h3 h
    rw [ed]
    refine ⟨⟨by simp; omega,?_,fun r hr => ?_,fun r hr => ?_⟩,snoc,by simp⟩
    · rw [List.map_append,List.nodup_append]
      refine ⟨g.nd,by simp,fun a ha b hb => ?_⟩
      rw [List.map_cons,List.map_nil,List.mem_singleton] at hb
      rw [hb]
      exact fun z => hm (by rw [← show a = n from z]; exact ha)
    · rcases List.mem_append.mp hr with hr | hr
      · exact g.nm r hr
      · rw [List.mem_singleton.mp hr]; exact hn
    · rcases List.mem_append.mp hr with hr | hr
      · exact g.ln r hr
      · rw [List.mem_singleton.mp hr]; exact hl cs rfl
  · by_cases h5 : way = 5
    · subst h5
      obtain ⟨ps,p,rfl,ed⟩ := deed_50 h
      rw [ed]
      exact ⟨gp p (by simp),fun q hq => gp q (by simp [hq]),by simp; omega⟩
    · obtain ⟨n,cs,rfl,hn,hf,ed⟩ := deed_340 (way := way) (by omega) h
      rw [ed]
      refine ⟨?_,snoc,by simp⟩
      dsimp only
      split
      · have hs : ∀ r ∈ strk kept n,r ∈ kept := fun r hr => (List.mem_filter.mp hr).1
        refine ⟨Nat.le_trans (List.length_filter_le _ _) g.len,nd_strk g.nd,fun r hr => g.nm r (hs r hr),fun r hr => g.ln r (hs r hr)⟩
      · refine ⟨by unfold trn; rw [List.length_map]; exact g.len,by rw [trn_fst]; exact g.nd,fun r hr => ?_,fun r hr => ?_⟩
        · obtain ⟨r0,h0,rfl⟩ := List.mem_map.mp hr
          have := g.nm r0 h0
          split
          · exact this
          · exact this
        · obtain ⟨r0,h0,rfl⟩ := List.mem_map.mp hr
          have := g.ln r0 h0
          split
          · rw [List.length_reverse]; exact this
          · exact this
theorem deed_le {way : Nat} {x : V} {lo : Option Cs} {kept : Bk} {past : List Bk} : (deed way x lo kept past).1 ≤ 5 := by
  by_cases h : (deed way x lo kept past).1 = 0
  · omega
  · exact (deed_err h).1.2
theorem wrd0 {c : Nat} (h : c ≤ 5) : decide (V.str (wrd c) = V.str (Str.ofString "")) = decide (c = 0) := by
  have : c = 0 ∨ c = 1 ∨ c = 2 ∨ c = 3 ∨ c = 4 ∨ c = 5 := by omega
  rcases this with rfl | rfl | rfl | rfl | rfl | rfl <;> decide +kernel
theorem LnT.go {N : List Addr} {H H' : Hp} {y : V} {lo : Option Cs} (h : LnT H y lo) (bt : But N H H') (hN : ∀ a ∈ N,∀ xs,H a ≠ some (.tup xs)) (hy : ∀ p,y = .ref p → p ∉ N) : LnT H' y lo := by
  have tp : ∀ {a : Addr} {xs : List V},H a = some (.tup xs) → H' a = some (.tup xs) := fun {a xs} e => bt _ _ (fun m => hN a m xs e) e
  cases h with
  | ok L h => exact .ok ⟨⟨bt _ _ (hy _ rfl) L.at_.lst,fun q hq => ⟨tp (L.at_.crn q hq).1,(L.at_.crn q hq).2⟩⟩,L.sml,L.len⟩ h
  | non => exact .non
  | tup e => exact .tup (tp e)
  | len e h h2 th => exact .len (bt _ _ (hy _ rfl) e) h h2 fun y hy => let ⟨t,a,b,z,f⟩ := th y hy; ⟨t,a,b,z,tp f⟩
  | one e e2 h => exact .one (bt _ _ (hy _ rfl) e) (tp e2) h
theorem Nm.go {N : List Addr} {H H' : Hp} {x : V} (n : Nm H x) (bt : But N H H') (hx : ∀ l,x = .ref l → l ∉ N ∧ H l = some (.lst [.str (Str.ofString "a")])) : Nm H' x := by
  cases x with
  | ref l =>
    obtain ⟨h1,h2⟩ := hx l rfl
    have h3 := bt _ _ h1 h2
    exact ⟨⟨_,.lst h3⟩,⟨_,Rp.l1 h3 .str⟩,fun _ e => nomatch e⟩
  | non => exact ⟨⟨_,.non⟩,⟨_,.non⟩,fun _ e => nomatch e⟩
  | bl b => exact ⟨⟨_,.bl _⟩,⟨_,.bl⟩,fun _ e => nomatch e⟩
  | int i => exact ⟨⟨_,.int _⟩,⟨_,.int⟩,fun _ e => nomatch e⟩
  | str z => exact ⟨⟨_,.str _⟩,⟨_,.str⟩,n.sz⟩
  | byt b => obtain ⟨t,k⟩ := n.kn; cases k
  | flt b => obtain ⟨t,k⟩ := n.kn; cases k
  | ty b => obtain ⟨t,k⟩ := n.kn; cases k
theorem len9 {α : Type} {xs : List α} (h : xs.length = 9) : ∃ a0 a1 a2 a3 a4 a5 a6 a7 a8,xs = [a0,a1,a2,a3,a4,a5,a6,a7,a8] := match xs,h with
  | [a0,a1,a2,a3,a4,a5,a6,a7,a8],_ => ⟨a0,a1,a2,a3,a4,a5,a6,a7,a8,rfl⟩
structure Fr (l : List Addr) (H : Hp) : Prop where
  nd : l.Nodup
  lv : ∀ a ∈ l,H a ≠ none
theorem Fr.nil {H : Hp} : Fr [] H := ⟨by simp,fun _ h => nomatch h⟩
theorem Fr.add {l : List Addr} {H H' : Hp} {a : Addr} (f : Fr l H) (s : Same H H') (n : H a = none) (h : H' a ≠ none) : Fr (a :: l) H' := by
  refine ⟨List.nodup_cons.mpr ⟨fun m => f.lv a m n,f.nd⟩,fun x hx => ?_⟩
  rcases List.mem_cons.mp hx with rfl | hx
  · exact h
  · exact still s (f.lv x hx)
theorem Fr.add3 {l : List Addr} {H H1 H' : Hp} {x k e : Addr} (f : Fr l H) (s : Same H H1) (s' : Same H H') (nx : H x = none) (hx : H1 x ≠ none) (nk : H1 k = none) (ne : H1 e = none) (ke : k ≠ e) (h1 : H' x ≠ none) (h2 : H' k ≠ none) (h3 : H' e ≠ none) : Fr (e :: k :: x :: l) H' := by
  have xl : x ∉ l := fun m => f.lv x m nx
  have kl : k ∉ l := fun m => f.lv k m (Same.free s nk)
  have el : e ∉ l := fun m => f.lv e m (Same.free s ne)
  have kx : k ≠ x := ne_live hx nk
  have ex : e ≠ x := ne_live hx ne
  refine ⟨?_,fun a ha => ?_⟩
  · simp only [List.nodup_cons,List.mem_cons,not_or]
    exact ⟨⟨fun z => ke z.symm,ex,el⟩,⟨kx,kl⟩,xl,f.nd⟩
  · simp only [List.mem_cons] at ha
    rcases ha with rfl | rfl | rfl | ha
    · exact h3
    · exact h2
    · exact h1
    · exact still s' (f.lv a ha)
theorem Fr.ne {l : List Addr} {H : Hp} (f : Fr l H) (i j : Nat) {a b : Addr} (hi : l[i]? = some a) (hj : l[j]? = some b) (h : i ≠ j) : a ≠ b := fun z => by
  subst z
  obtain ⟨h1,h2⟩ := List.getElem?_eq_some_iff.mp hi
  obtain ⟨h3,h4⟩ := List.getElem?_eq_some_iff.mp hj
  rcases Nat.lt_or_gt_of_ne h with q | q
  · exact List.pairwise_iff_getElem.mp f.nd i j h1 h3 q (h2.trans h4.symm)
  · exact List.pairwise_iff_getElem.mp f.nd j i h3 h1 q (h4.trans h2.symm)
theorem Fr.notin {l N : List Addr} {H : Hp} {a : Addr} (F : Fr l H) (i : Nat) (hi : l[i]? = some a) (js : List Nat) (hN : N.map some = js.map (fun j => l[j]?)) (h : i ∉ js) : a ∉ N := fun m => by
  have m2 : some a ∈ js.map (fun j => l[j]?) := by rw [← hN]; exact List.mem_map.mpr ⟨a,m,rfl⟩
  obtain ⟨j,hj,e⟩ := List.mem_map.mp m2
  by_cases z : i = j
  · exact h (z ▸ hj)
  · exact F.ne i j hi e z rfl
theorem But.less {N M : List Addr} {H H' : Hp} (b : But N H H') (h : ∀ a ∈ N,a ∈ M ∨ H a = none) : But M H H' := fun x o n e => b x o (out_of h n e) e
def YL (H : Hp) (y : V) (ly : List Addr) : Prop := (∃ p xs,ly = [p] ∧ y = .ref p ∧ H p = some (.lst xs) ∧ xs.length ≤ 100) ∨ (ly = [] ∧ (y = .non ∨ ∃ p xs,y = .ref p ∧ H p = some (.tup xs)))
theorem LnT.yl {H : Hp} {y : V} {lo : Option Cs} (h : LnT H y lo) : ∃ ly,YL H y ly := by
  cases h with
  | ok L h => exact ⟨_,.inl ⟨_,_,rfl,rfl,L.at_.lst,by rw [List.length_map]; omega⟩⟩
  | non => exact ⟨_,.inr ⟨rfl,.inl rfl⟩⟩
  | tup e => exact ⟨_,.inr ⟨rfl,.inr ⟨_,_,rfl,e⟩⟩⟩
  | len e _ h2 _ => exact ⟨_,.inl ⟨_,_,rfl,rfl,e,h2⟩⟩
  | one e _ _ => exact ⟨_,.inl ⟨_,_,rfl,rfl,e,by simp⟩⟩
theorem YL.go {N ly : List Addr} {H H' : Hp} {y : V} (h : YL H y ly) (bt : But N H H') (hy : ∀ p,y = .ref p → p ∉ N) : YL H' y ly := by
  rcases h with ⟨p,xs,h1,h2,h3,h4⟩ | ⟨h1,h2 | ⟨p,xs,h2,h3⟩⟩
  · exact .inl ⟨p,xs,h1,h2,bt _ _ (hy p h2) h3,h4⟩
  · exact .inr ⟨h1,.inl h2⟩
  · exact .inr ⟨h1,.inr ⟨p,xs,h2,bt _ _ (hy p h2) h3⟩⟩
theorem YL.lv {ly : List Addr} {H : Hp} {y : V} (h : YL H y ly) : ∀ a ∈ ly,H a ≠ none ∧ ∀ xs,H a ≠ some (.tup xs) := fun a ha => by
  rcases h with ⟨p,xs,h1,h2,h3,h4⟩ | ⟨h1,_⟩
  · rw [h1] at ha
    rw [List.mem_singleton.mp ha,h3]
    exact ⟨by simp,fun xs => by simp⟩
  · rw [h1] at ha
    cases ha
theorem YL.ref {ly : List Addr} {H : Hp} {y : V} (h : YL H y ly) : ∀ a ∈ ly,y = .ref a := fun a ha => by
  rcases h with ⟨p,xs,h1,h2,h3,h4⟩ | ⟨h1,_⟩
  · rw [h1] at ha
    rw [List.mem_singleton.mp ha,h2]
  · rw [h1] at ha
    cases ha
def ifBody (s : Stmt) : List Stmt := match s with
  | .If _ b _ _ => b
  | _ => []
theorem made_same {H H1 H' : Hp} {x : Addr} (s : Same H H1) (bt : But [x] H1 H') (n : H x = none) : Same H H' := fun a o e => bt a o (fun z => by rw [List.mem_singleton.mp z,n] at e; cases e) (s a o e)
theorem cells3 {ss : List Int} {a b c : Int} {o : V} {i : Nat} (h : (cutV (ss.map V.int) none (some 40) ++ [V.int a,.int b,.int c])[i]? = some o) : ∃ c,o = V.int c := by
  have hm := List.mem_of_getElem? h
  rcases List.mem_append.mp hm with hm | hm
  · obtain ⟨c,_,e⟩ := List.mem_map.mp (mem_cutV hm)
    exact ⟨c,e.symm⟩
  · simp only [List.mem_cons,List.not_mem_nil,or_false] at hm
    rcases hm with rfl | rfl | rfl <;> exact ⟨_,rfl⟩
theorem first_int (ss : List Int) : ∃ v,atI (ss.map V.int ++ [V.int 5]) 0 = some (.int v) := by
  cases ss with
  | nil => exact ⟨5,rfl⟩
  | cons a r => exact ⟨a,at0 _ _⟩
theorem deed_past {way : Nat} {x : V} {lo : Option Cs} {kept : Bk} {past : List Bk} (h5 : way ≤ 5) (hw : way ≠ 5) (h : (deed way x lo kept past).1 = 0) : (deed way x lo kept past).2.2 = past ++ [kept] := by
  by_cases h3 : way < 3
  · obtain ⟨n,cs,_,_,_,_,_,ed⟩ := deed_put0 h3 h
    rw [ed]
  · obtain ⟨n,cs,_,_,_,ed⟩ := deed_340 (way := way) (by omega) h
    rw [ed]
def pick2 (a c : Addr) : Nat → Addr := fun j => if j = 0 then a else c
def clK (K : PySem.W.Frag) : Nat → Addr := fun c => Hd.cls K ([Str.ofString "",Str.ofString "NoName",Str.ofString "Twice",Str.ofString "NoLine",Str.ofString "TooMany",Str.ofString "NoDeed"].getD c (Str.ofString ""))
theorem S_law : FnScope ["script","names","books","kepts","pasts","cell","numbers","which","way","name","line","due","behind"] ["script"] (defScope (top 41)) := ⟨rfl,rfl,rfl,by decide +kernel,rfl,by decide +kernel,by decide +kernel⟩
theorem fn_law {cl : Nat → Addr} (D_law : Df K mg "law" (top 41)) (O_Book : OwnC K mg "Book" C_Book) (F_law_names : Fn P w K mg base "_law_names" ["number"] 1 spNms) (F_Book___init : Mt P w K mg base C_Book "__init__" ["self"] 1 (spInit C_Book)) (F_law_numbers : Fn P w K mg base "_law_numbers" ["cell","many","base"] 2 spNumbers) (F_law_thing : Fn P w K mg base "_law_thing" ["numbers","names"] 1 spThing) (F_law_line : Fn P w K mg base "_law_line" ["numbers"] 2 spLn) (F_law_due : Fn P w K mg base "_law_due" ["kept","past","way","name","line","names"] 2 spDue) (F_law_done : Fn P w K mg base "_law_done" ["book","way","name","line"] 7 (spDone C_Book cl)) (F_law_behind : Fn P w K mg base "_law_behind" ["kept","past","way","name","line"] 1 spBeh) (F_Book_names : Mt P w K mg base C_Book "names" ["self"] 1 (spNames C_Book)) (F_law_line_stands : Fn P w K mg base "_law_line_stands" ["book","kept","name"] 3 (spLS C_Book)) (F_law_stands : Fn P w K mg base "_law_stands" ["book","kept"] 3 (spStands C_Book)) (T : Txt mg) : Fn P w K mg base "law" ["script"] 9 (spLaw K) := by
  refine D_law.fn S_law (fun _ _ _ _ _ _ us hl => match us,hl with | [_],_ => rfl) (fun vs H Q E h => ?_) (fun f cdv A outer s H vs Q E hr h => ?_)
  · obtain ⟨sa,ss,rfl,_⟩ := h
    rfl
  · obtain ⟨sa,ss,rfl,hS,hlen,fin⟩ := h
    have CN : CompN (cxOf CX0 P w K mg base ["script","names","books","kepts","pasts","cell","numbers","which","way","name","line","due","behind"] "law" (defScope (top 41)) f cdv A outer s H E).nox (lcA (top 41) 0) [] "row" [] :=
      ⟨by rfl,rfl,by decide +kernel,by decide +kernel,rfl,(fun p hp => nomatch hp),by rfl,by decide +kernel,(fun p hp => nomatch hp),⟨rfl,rfl⟩,rfl⟩
    have R : ∃ u : TS,PSs (cxOf CX0 P w K mg base ["script","names","books","kepts","pasts","cell","numbers","which","way","name","line","due","behind"] "law" (defScope (top 41)) f cdv A outer s H E).nox ((forBody ((defBody (top 41)).getD 4 (.Pass ⟨0,0,0,0⟩))).drop 8) u ∧ ∀ (D : Ends) (M : List Addr) (w : Nat) (bs ks : Nat → Addr) (e : Addr) (kept : Bk) (past : List Bk) (x : V) (z1 z4 z5 z6 z8 z10 z11 z12 : Option V) (bl kl : Addr) (H4 : Hp),w < 2 → H4 bl = some (.lst [.ref (bs 0),.ref (bs 1)]) → H4 kl = some (.lst [.ref (ks 0),.ref (ks 1)]) → BookR M C_Book H4 (bs w) e kept past → Bo M H4 (ks w) kept → Good kept → Nm H4 x →
        (∀ H5,Same H4 H5 → D.nx [some (.ref sa),z1,some (.ref bl),some (.ref kl),z4,z5,z6,some (.int (w : Int)),z8,some x,z10,z11,z12] H5) → u D [some (.ref sa),z1,some (.ref bl),some (.ref kl),z4,z5,z6,some (.int (w : Int)),z8,some x,z10,z11,z12] H4 := by
      refine ⟨_,(pss_cons (ps_if (pt_cmpR (op_neD hr.units10) (pe_mt00 O_Book F_Book_names (hr.mono (by decide)) (pe_ix ix_list (pv 2) (pv 7) (fun _ _ => rfl))) (pe_compA rfl CN (pi_list (pe_ix ix_list (pv 3) (pv 7) (fun _ _ => rfl))) (fun fp s₀ H₀ => (pe_ix (ix_tupK (K := K) rfl) (pv 0) pe_int (fun _ _ => rfl)))) (nomark _)) (pss_one (ps_ret pe_bl)) pss_nil) (pss_one (ps_if (pt_not (pt_val (pe_fn F_law_line_stands (hr.mono (by decide)) (by rfl) (pa_cons (pe_ix ix_list (pv 2) (pv 7) (fun _ _ => rfl)) (pa_cons (pe_ix ix_list (pv 3) (pv 7) (fun _ _ => rfl)) (pa_cons (pv 9) pa_nil)))))) (pss_one (ps_ret pe_bl)) pss_nil))),fun D M w bs ks e kept past x z1 z4 z5 z6 z8 z10 z11 z12 bl kl H4 hw hbl hkl bk bo gd nm nx => ?_⟩
      obtain ⟨dx,k,hb,bo2,pa⟩ := bk.ex
      have hz := gd.len
      refine ⟨_,rfl,_,rfl,bl,_,_,_,rfl,rfl,SqL.of (hbl),at_w hw,bs w,dx,_,rfl,hb,rfl,bs w,M,e,kept,past,rfl,bk,by omega,fun l5 H5 s5 n5 f5 => ?_⟩
      have bo5 := bo.mono s5
      refine ⟨_,rfl,_,rfl,kl,_,_,_,rfl,rfl,SqL.of (s5 _ _ hkl),at_w hw,ks w,rfl,bo5.sq,comp_nms bo5 (by omega) (fun r n l H2 Kc ht k => ⟨_,rfl,r,_,_,_,rfl,rfl,SqT.of ht,rfl,k⟩) (fun l6 H6 n6 s6 f6 => ⟨_,_,nms_rp (s6 _ _ f5),nms_rp f6,_,rfl,?_⟩)⟩
      rw [if_pos rfl,deq_self]
      refine iteFalse (by decide) ?_
      have s := s5.trans s6
      exact ⟨_,rfl,_,rfl,bl,_,_,_,rfl,rfl,SqL.of (s _ _ hbl),at_w hw,_,rfl,_,rfl,kl,_,_,_,rfl,rfl,SqL.of (s _ _ hkl),at_w hw,_,rfl,bs w,ks w,x,M,e,kept,past,rfl,bk.mono s,bo.mono s,nm.mono s,gd,fun H7 s7 => ⟨_,rfl,iteFalse (by decide) (nx H7 (s.trans s7))⟩⟩
    obtain ⟨u,hu,hR⟩ := R
    have R1 : ∃ u1 : TS,PSs (cxOf CX0 P w K mg base ["script","names","books","kepts","pasts","cell","numbers","which","way","name","line","due","behind"] "law" (defScope (top 41)) f cdv A outer s H E).nox ((ifBody ((forBody ((defBody (top 41)).getD 4 (.Pass ⟨0,0,0,0⟩))).getD 7 (.Pass ⟨0,0,0,0⟩))).drop 2) u1 ∧ ∀ (D : Ends) (ly : List Addr) (w : Nat) (ks : Nat → Addr) (kb kl : Addr) (y : V) (z1 z2 z4 z5 z6 z8 z9 z11 : Option V) (H4 : Hp),w < 2 → H4 kl = some (.lst [.ref (ks 0),.ref (ks 1)]) → YL H4 y ly → (∀ p,y = .ref p → p ≠ kl) →
        (∀ H5,But (kl :: ly) H4 H5 → H5 kl = some (.lst [.ref (put2 ks w kb 0),.ref (put2 ks w kb 1)]) → (∀ a ∈ ly,H5 a ≠ none ∧ ∀ xs,H5 a ≠ some (.tup xs)) → D.nx [some (.ref sa),z1,z2,some (.ref kl),z4,z5,z6,some (.int (w : Int)),z8,z9,some y,z11,some (.ref kb)] H5) → u1 D [some (.ref sa),z1,z2,some (.ref kl),z4,z5,z6,some (.int (w : Int)),z8,z9,some y,z11,some (.ref kb)] H4 := by
      refine ⟨_,(pss_cons (ps_asg (pv 12) (pg_sub (pv 3) (pv 7) set_listA)) (pss_one (ps_if (pt_val (pe_callB call_isinst (by rfl) T.z_isinstance bt_isinstance (pa_cons (pv 10) (pa_cons (pe_ty T.z_list bt_list) pa_nil)))) (pss_one (ps_expr (pe_bm PySem.F.plainAttrs_list PySem.F.slot_list_append PySem.F.type_list_append mt_appendA (pv 10) (pa_cons (pe_tupA (pa_cons pe_int (pa_cons pe_int pa_nil))) pa_nil)))) pss_nil))),fun D ly w ks kb kl y z1 z2 z4 z5 z6 z8 z9 z11 H4 hw hkl hy nk nx => ?_⟩
      refine ⟨_,rfl,_,rfl,_,rfl,kl,_,_,w,rfl,rfl,hkl,ix_w hw,fun H5 u5 => ?_⟩
      have k5 := u5.now
      rw [set_w hw] at k5
      have b5 : But [kl] H4 H5 := But.upd u5 (by simp)
      have y5 := hy.go b5 (fun p e m => nk p e (List.mem_singleton.mp m))
      rcases y5 with ⟨p,xs,rfl,rfl,hp,hx⟩ | ⟨rfl,rfl | ⟨p,xs,rfl,hp⟩⟩
      · refine ⟨_,rfl,_,"list","list",rfl,.lst hp,.inr (.inr (.inr (.inl rfl))),_,rfl,iteTrue (by decide) ?_⟩
        have pk := nk p rfl
        refine ⟨_,rfl,.inl ⟨rfl,_,SqL.of hp⟩,sz (by simp),fun t H6 s6 f6 n6 => ⟨p,_,_,rfl,rfl,s6 _ _ hp,by rw [sizeLine_eq]; omega,fun H7 u7 => ?_⟩⟩
        refine nx H7 ((b5.wide (by simp)).trans ((But.of s6).trans (But.upd u7 (by simp)))) (u7.at (fun z => pk z.symm) (s6 _ _ k5)) fun a ha => ?_
        rw [List.mem_singleton.mp ha,u7.now]
        exact ⟨by simp,fun xs => by simp⟩
      · exact ⟨_,rfl,_,"NoneType","list",rfl,.non,.inr (.inr (.inr (.inl rfl))),_,rfl,iteFalse (by decide) (nx H5 b5 k5 fun a ha => nomatch ha)⟩
      · exact ⟨_,rfl,_,"tuple","list",rfl,.tup hp,.inr (.inr (.inr (.inl rfl))),_,rfl,iteFalse (by decide) (nx H5 b5 k5 fun a ha => nomatch ha)⟩
    obtain ⟨u1,hu1,hR1⟩ := R1
    refine ⟨_,pss_cons (ps_set (i := 1) S_law.nd rfl (Or.inl rfl) (pe_fn F_law_names (hr.mono (by decide)) (by rfl) (pa_cons (pe_op op_mod (pe_ix ix_list (pe_op op_catK (pv 0) (pe_lstA (pa_cons pe_int pa_nil))) pe_int (fun _ _ => rfl)) (pe_op op_pow pe_int pe_int)) pa_nil))) (pss_cons (ps_set (i := 2) S_law.nd rfl (Or.inl rfl) (pe_lstA (pa_cons (pe_mk0 O_Book F_Book___init (hr.mono (by decide)) (by rfl)) (pa_cons (pe_mk0 O_Book F_Book___init (hr.mono (by decide)) (by rfl)) pa_nil)))) (pss_cons (ps_set (i := 3) S_law.nd rfl (Or.inl rfl) (@pe_lstA _ _ _ _ (@pa_cons _ _ _ _ _ (@pe_lstA _ _ _ _ pa_nil) (@pa_cons _ _ _ _ _ (@pe_lstA _ _ _ _ pa_nil) pa_nil (by rfl)) (by rfl)))) (pss_cons (ps_set (i := 4) S_law.nd rfl (Or.inl rfl) (@pe_lstA _ _ _ _ (@pa_cons _ _ _ _ _ (@pe_lstA _ _ _ _ pa_nil) (@pa_cons _ _ _ _ _ (@pe_lstA _ _ _ _ pa_nil) pa_nil (by rfl)) (by rfl)))) (pss_cons (ps_for PassesOwn.never rfl (pi_list (pe_op op_catA (pe_slice sl_listA (pv 0) po_none (po_some pe_int)) (pe_lstA (pa_cons pe_int (pa_cons pe_int (pa_cons (pe_callB call_len_seq (by rfl) T.z_len bt_len (pa_cons (pv 0) pa_nil)) pa_nil)))))) (pg_name (i := 5) S_law.nd rfl (Or.inl rfl)) (pss_cons (ps_set (i := 6) S_law.nd rfl (Or.inl rfl) (pe_fn F_law_numbers (hr.mono (by decide)) (by rfl) (pa_cons (pv 5) (pa_cons pe_int (pa_cons (pe_op op_pow pe_int pe_int) pa_nil))))) (pss_cons (ps_set (i := 7) S_law.nd rfl (Or.inl rfl) (pe_op op_fdivP (pe_op op_mod (pe_ix ix_list (pv 6) pe_int (fun _ _ => rfl)) pe_int) pe_int)) (pss_cons (ps_set (i := 8) S_law.nd rfl (Or.inl rfl) (pe_op op_mod (pe_ix ix_list (pv 6) pe_int (fun _ _ => rfl)) pe_int)) (pss_cons (ps_set (i := 9) S_law.nd rfl (Or.inl rfl) (pe_fn F_law_thing (hr.mono (by decide)) (by rfl) (pa_cons (pe_slice sl_listA (pv 6) (po_some pe_int) (po_some pe_int)) (pa_cons (pv 1) pa_nil)))) (pss_cons (ps_set (i := 10) S_law.nd rfl (Or.inl rfl) (pe_fn F_law_line (hr.mono (by decide)) (by rfl) (pa_cons (pe_slice sl_listA (pv 6) (po_some pe_int) po_none) pa_nil))) (pss_cons (ps_set (i := 11) S_law.nd rfl (Or.inl rfl) (pe_fn F_law_due (hr.mono (by decide)) (by rfl) (pa_cons (pe_ix ix_list (pv 3) (pv 7) (fun _ _ => rfl)) (pa_cons (pe_ix ix_list (pv 4) (pv 7) (fun _ _ => rfl)) (pa_cons (pv 8) (pa_cons (pv 9) (pa_cons (pv 10) (pa_cons (pv 1) pa_nil)))))))) (pss_cons (ps_if (pt_cmpR op_ne (pe_fn F_law_done (hr.mono (by decide)) (by rfl) (pa_cons (pe_ix ix_list (pv 2) (pv 7) (fun _ _ => rfl)) (pa_cons (pv 8) (pa_cons (pv 9) (pa_cons (pv 10) pa_nil))))) (pv 11) (nomark _)) (pss_one (ps_ret pe_bl)) pss_nil) (pss_cons (ps_if (pt_cmpR op_eq (pv 11) pe_str (nomark _)) (pss_cons (ps_set (i := 12) S_law.nd rfl (Or.inl rfl) (pe_fn F_law_behind (hr.mono (by decide)) (by rfl) (pa_cons (pe_ix ix_list (pv 3) (pv 7) (fun _ _ => rfl)) (pa_cons (pe_ix ix_list (pv 4) (pv 7) (fun _ _ => rfl)) (pa_cons (pv 8) (pa_cons (pv 9) (pa_cons (pv 10) pa_nil))))))) (pss_cons (ps_if (pt_cmpR op_eq (pv 8) pe_int (nomark _)) (pss_one (ps_expr (pe_bm0 PySem.F.plainAttrs_list PySem.F.slot_list_pop PySem.F.type_list_pop mt_popA (pe_ix ix_list (pv 4) (pv 7) (fun _ _ => rfl))))) (pss_one (ps_expr (pe_bm PySem.F.plainAttrs_list PySem.F.slot_list_append PySem.F.type_list_append mt_appendA (pe_ix ix_list (pv 4) (pv 7) (fun _ _ => rfl)) (pa_cons (pe_ix ix_list (pv 3) (pv 7) (fun _ _ => rfl)) pa_nil))))) hu1)) pss_nil) hu))))))))) (pss_one (ps_ret (pe_and (pe_fn F_law_stands (hr.mono (by decide)) (by rfl) (pa_cons (pe_ix ix_list (pv 2) pe_int (fun _ _ => rfl)) (pa_cons (pe_ix ix_list (pv 3) pe_int (fun _ _ => rfl)) pa_nil))) (pe_and (pe_fn F_law_stands (hr.mono (by decide)) (by rfl) (pa_cons (pe_ix ix_list (pv 2) pe_int (fun _ _ => rfl)) (pa_cons (pe_ix ix_list (pv 3) pe_int (fun _ _ => rfl)) pa_nil))) (pe_one (pe_fn F_law_stands (hr.mono (by decide)) (by rfl) (pa_cons (pe_ix ix_list (pv 2) pe_int (fun _ _ => rfl)) (pa_cons (pe_ix ix_list (pv 3) pe_int (fun _ _ => rfl)) pa_nil)))))))))))),?_⟩
    obtain ⟨fv,hfv⟩ := first_int ss
    refine ⟨_,rfl,sz (by simp),fun q0 G0 t0 g0 m0 => ⟨sa,q0,_,_,rfl,rfl,t0.seq hS,SqL.of g0,by rw [sizeLine_eq,List.length_map]; simp only [List.length_cons,List.length_nil]; omega,fun q1 G1 t1 g1 m1 => ⟨q1,_,_,_,rfl,rfl,SqL.of g1,hfv,_,_,rfl,rfl,⟨by decide,by decide,by decide⟩,_,_,rfl,rfl,(by show (0 : Int) < 10 ^ (30 : Int).toNat; decide +kernel),?_⟩⟩⟩
    refine ⟨_,rfl,⟨Int.emod_nonneg _ (by decide +kernel),Int.emod_lt_of_pos _ (by decide +kernel)⟩,fun nl ws H1 s1 n1 hws => ?_⟩
    refine fun x0 dx0 nx0 nd0 ne0 => ⟨x0,dx0,rfl,upd_same,fun i0 e0 H2 bt2 hb0 ni0 nne0 ie0 hi0 he0 => ⟨rfl,fun x1 dx1 nx1 nd1 ne1 => ⟨x1,dx1,rfl,upd_same,fun i1 e1 H3 bt3 hb1 ni1 nne1 ie1 hi1 he1 => ⟨rfl,sz (by simp),fun bl H4 s4 f4 n4 => ?_⟩⟩⟩⟩
    refine ⟨sz (by simp),fun k0 H5 s5 f5 n5 => ⟨sz (by simp),fun k1 H6 s6 f6 n6 => ⟨sz (by simp),fun kl H7 s7 f7 n7 => ?_⟩⟩⟩
    refine ⟨sz (by simp),fun p0 H8 s8 f8 n8 => ⟨sz (by simp),fun p1 H9 s9 f9 n9 => ⟨sz (by simp),fun pl H10 s10 f10 n10 => ?_⟩⟩⟩
    have w1 : Same H1 (upd (upd H1 dx0 (.own x0)) x0 (.ins C_Book dx0 [])) := (Same.new nd0).trans (Same.new (by rw [upd_ne (fun z => ne0 z.symm)]; exact nx0))
    have s2 : Same H1 H2 := made_same w1 bt2 nx0
    have w2 : Same H2 (upd (upd H2 dx1 (.own x1)) x1 (.ins C_Book dx1 [])) := (Same.new nd1).trans (Same.new (by rw [upd_ne (fun z => ne1 z.symm)]; exact nx1))
    have s3 : Same H2 H3 := made_same w2 bt3 nx1
    have F2 : Fr [e0,i0,x0] H2 := Fr.nil.add3 w1 s2 nx0 (by rw [upd_same]; simp) ni0 nne0 ie0 (by rw [hb0]; simp) (by rw [hi0]; simp) (by rw [he0]; simp)
    have F3 : Fr [e1,i1,x1,e0,i0,x0] H3 := F2.add3 w2 s3 nx1 (by rw [upd_same]; simp) ni1 nne1 ie1 (by rw [hb1]; simp) (by rw [hi1]; simp) (by rw [he1]; simp)
    have F4 := F3.add s4 n4 (by rw [f4]; simp)
    have F5 := F4.add s5 n5 (by rw [f5]; simp)
    have F6 := F5.add s6 n6 (by rw [f6]; simp)
    have F7 := F6.add s7 n7 (by rw [f7]; simp)
    have F8 := F7.add s8 n8 (by rw [f8]; simp)
    have F9 := F8.add s9 n9 (by rw [f9]; simp)
    have F : Fr [pl,p1,p0,kl,k1,k0,bl,e1,i1,x1,e0,i0,x0] H10 := F9.add s10 n10 (by rw [f10]; simp)
    have a9 : Same H9 H10 := s10
    have a8 := s9.trans a9
    have a7 := s8.trans a8
    have a6 := s7.trans a7
    have a5 := s6.trans a6
    have a4 := s5.trans a5
    have a3 := s4.trans a4
    have a2 := s3.trans a3
    have a1 := s2.trans a2
    have sp : Sep (pick2 x0 x1) (pick2 e0 e1) (pick2 p0 p1) kl := by
      refine ⟨?_,?_,?_,?_,?_,?_,?_,?_,?_⟩
      · intro i j hi hj h
        rcases two hi with rfl | rfl <;> rcases two hj with rfl | rfl <;> first | exact absurd rfl h | exact F.ne 12 9 rfl rfl (by decide) | exact F.ne 9 12 rfl rfl (by decide)
      · intro i j hi hj h
        rcases two hi with rfl | rfl <;> rcases two hj with rfl | rfl <;> first | exact absurd rfl h | exact F.ne 10 7 rfl rfl (by decide) | exact F.ne 7 10 rfl rfl (by decide)
      · intro i j hi hj h
        rcases two hi with rfl | rfl <;> rcases two hj with rfl | rfl <;> first | exact absurd rfl h | exact F.ne 2 1 rfl rfl (by decide) | exact F.ne 1 2 rfl rfl (by decide)
      · intro i j hi hj
        rcases two hi with rfl | rfl <;> rcases two hj with rfl | rfl <;> first | exact F.ne 12 10 rfl rfl (by decide) | exact F.ne 12 7 rfl rfl (by decide) | exact F.ne 9 10 rfl rfl (by decide) | exact F.ne 9 7 rfl rfl (by decide)
      · intro i j hi hj
        rcases two hi with rfl | rfl <;> rcases two hj with rfl | rfl <;> first | exact F.ne 12 2 rfl rfl (by decide) | exact F.ne 12 1 rfl rfl (by decide) | exact F.ne 9 2 rfl rfl (by decide) | exact F.ne 9 1 rfl rfl (by decide)
      · intro i j hi hj
        rcases two hi with rfl | rfl <;> rcases two hj with rfl | rfl <;> first | exact F.ne 10 2 rfl rfl (by decide) | exact F.ne 10 1 rfl rfl (by decide) | exact F.ne 7 2 rfl rfl (by decide) | exact F.ne 7 1 rfl rfl (by decide)
      · intro j hj
        rcases two hj with rfl | rfl <;> first | exact F.ne 3 12 rfl rfl (by decide) | exact F.ne 3 9 rfl rfl (by decide)
      · intro j hj
        rcases two hj with rfl | rfl <;> first | exact F.ne 3 10 rfl rfl (by decide) | exact F.ne 3 7 rfl rfl (by decide)
      · intro j hj
        rcases two hj with rfl | rfl <;> first | exact F.ne 3 2 rfl rfl (by decide) | exact F.ne 3 1 rfl rfl (by decide)
    have nM : ∀ (i : Nat) {a : Addr},[pl,p1,p0,kl,k1,k0,bl,e1,i1,x1,e0,i0,x0][i]? = some a → i ∉ [3,12,10,2,9,7,1] → a ∉ Ms (pick2 x0 x1) (pick2 e0 e1) (pick2 p0 p1) kl := fun i a hi h => F.notin i hi [3,12,10,2,9,7,1] rfl h
    have hkl : H10 kl = some (.lst [.ref (pick2 k0 k1 0),.ref (pick2 k0 k1 1)]) := a7 _ _ f7
    have hbl : H10 bl = some (.lst [.ref (pick2 x0 x1 0),.ref (pick2 x0 x1 1)]) := a4 _ _ f4
    have hpl : H10 pl = some (.lst [.ref (pick2 p0 p1 0),.ref (pick2 p0 p1 1)]) := f10
    have nbl := nM 6 (a := bl) rfl (by decide)
    have npl := nM 0 (a := pl) rfl (by decide)
    have hws10 := hws.mono a1
    have h10b0 := a2 _ _ hb0
    have h10b1 := a3 _ _ hb1
    have h10e0 := a2 _ _ he0
    have h10e1 := a3 _ _ he1
    have nil : ∀ {M : List Addr} {k : Addr} {H : Hp},k ∉ M → H k = some (.lst []) → Bo M H k [] := fun {M k H} n h => ⟨[],rfl,n,h,fun _ z => nomatch z⟩
    have nilP : ∀ {M : List Addr} {k : Addr} {H : Hp},H k = some (.lst []) → Pa M H k [] := fun {M k H} h => ⟨[],rfl,h,fun _ z => nomatch z⟩
    have lv10 : Live (Ms (pick2 x0 x1) (pick2 e0 e1) (pick2 p0 p1) kl) H10 := fun a m => by
      have lst : ∀ {a : Addr} {xs : List V},H10 a = some (.lst xs) → H10 a ≠ none ∧ ∀ ys,H10 a ≠ some (.tup ys) := fun {a xs} e => by rw [e]; exact ⟨by simp,fun ys => by simp⟩
      have ins : ∀ {a C d : Addr} {xs : List (Str × V)},H10 a = some (.ins C d xs) → H10 a ≠ none ∧ ∀ ys,H10 a ≠ some (.tup ys) := fun {a C d xs} e => by rw [e]; exact ⟨by simp,fun ys => by simp⟩
      simp only [Ms,List.mem_cons,List.not_mem_nil,or_false] at m
      rcases m with rfl | rfl | rfl | rfl | rfl | rfl | rfl
      · exact lst hkl
      · exact ins h10b0
      · exact lst h10e0
      · exact lst (a8 _ _ f8)
      · exact ins h10b1
      · exact lst h10e1
      · exact lst (a9 _ _ f9)
    have sd10 : ∀ j,j < 2 → Side (Ms (pick2 x0 x1) (pick2 e0 e1) (pick2 p0 p1) kl) C_Book H10 (pick2 x0 x1 j) (pick2 e0 e1 j) (pick2 p0 p1 j) (pick2 k0 k1 j) [] [] := fun j hj => by
      rcases two hj with rfl | rfl
      · exact ⟨⟨dx0,i0,h10b0,nil (nM 11 rfl (by decide)) (a2 _ _ hi0),nilP h10e0⟩,nil (nM 5 rfl (by decide)) (a5 _ _ f5),nilP (a8 _ _ f8),Good.nil,fun _ z => nomatch z⟩
      · exact ⟨⟨dx1,i1,h10b1,nil (nM 8 rfl (by decide)) (a3 _ _ hi1),nilP h10e1⟩,nil (nM 4 rfl (by decide)) (a6 _ _ f6),nilP (a9 _ _ f9),Good.nil,fun _ z => nomatch z⟩
    have nnl : nl ∉ Ms (pick2 x0 x1) (pick2 e0 e1) (pick2 p0 p1) kl := fun m => by
      have h0 := hws.lst
      have no : H1 nl ≠ none := by rw [h0]; simp
      have c2 := s2
      have c3 := c2.trans s3
      have c4 := c3.trans s4
      have c5 := c4.trans s5
      have c6 := c5.trans s6
      have c7 := c6.trans s7
      have c8 := c7.trans s8
      simp only [Ms,List.mem_cons,List.not_mem_nil,or_false] at m
      rcases m with rfl | rfl | rfl | rfl | rfl | rfl | rfl
      · exact no (Same.free c6 n7)
      · exact no nx0
      · exact no (Same.free w1 nne0)
      · exact no (Same.free c7 n8)
      · exact no (Same.free c2 nx1)
      · exact no (Same.free (c2.trans w2) nne1)
      · exact no (Same.free c8 n9)
    have mb : ∀ w,w < 2 → pick2 x0 x1 w ∈ Ms (pick2 x0 x1) (pick2 e0 e1) (pick2 p0 p1) kl := fun w h => Ms.b h
    have me : ∀ w,w < 2 → pick2 e0 e1 w ∈ Ms (pick2 x0 x1) (pick2 e0 e1) (pick2 p0 p1) kl := fun w h => Ms.e h
    have mp : ∀ w,w < 2 → pick2 p0 p1 w ∈ Ms (pick2 x0 x1) (pick2 e0 e1) (pick2 p0 p1) kl := fun w h => Ms.p h
    have mk : kl ∈ Ms (pick2 x0 x1) (pick2 e0 e1) (pick2 p0 p1) kl := Ms.k
    generalize Ms (pick2 x0 x1) (pick2 e0 e1) (pick2 p0 p1) kl = M at *
    generalize pick2 x0 x1 = b at *
    generalize pick2 e0 e1 = e at *
    generalize pick2 p0 p1 = p at *
    generalize pick2 k0 k1 = k at *
    have aH : Same H H10 := t0.trans (t1.trans (s1.trans a1))
    clear nM F F2 F3 F4 F5 F6 F7 F8 F9 nil nilP a2 a3 a4 a5 a6 a7 a8 a9
    have hS10 : SqL K H10 sa (ss.map V.int) := aH.seq hS
    refine ⟨_,rfl,_,rfl,sa,_,rfl,hS10,fun q2 G2 t2 g2 m2 => ⟨_,rfl,sa,_,rfl,.inl (t2.seq hS10),sz (by simp),fun q3 G3 t3 g3 m3 => ⟨q2,q3,_,_,rfl,rfl,t3 _ _ g2,g3,?_,fun pc G t4 gc m4 => ?_⟩⟩⟩
    · have lcut := cutV_length (ss.map V.int) none (some 40)
      rw [List.length_map] at lcut
      rw [sizeLine_eq]
      simp only [List.length_cons,List.length_nil]
      omega
    have tG : Same H10 G := t2.trans (t3.trans t4)
    have npc : pc ∉ M := ((lv10.mono t2).mono t3).out m4
    refine ⟨pc,rfl,⟨_,SqL.of gc⟩,for_list (K := K) (a := pc) (xs := cutV (ss.map V.int) none (some 40) ++ [.int 0,.int 3,.int (((ss.map V.int).length : Nat) : Int)]) (fun i σ H3 => ∃ (k : Nat → Addr) (kept : Nat → Bk) (past : Nat → List Bk) (z5 z6 z7 z8 z9 z10 z11 z12 : Option V),σ = [some (.ref sa),some (.ref nl),some (.ref bl),some (.ref kl),some (.ref pl),z5,z6,z7,z8,z9,z10,z11,z12] ∧ But M G H3 ∧ Live M H3 ∧ H3 kl = some (.lst [.ref (k 0),.ref (k 1)]) ∧ ∀ j,j < 2 → Side M C_Book H3 (b j) (e j) (p j) (k j) (kept j) (past j) ∧ (past j).length ≤ i)
      ⟨k,fun _ => [],fun _ => [],_,_,_,_,_,_,_,_,rfl,.of (Same.refl _),lv10.mono tG,tG _ _ hkl,fun j hj => ⟨(sd10 j hj).mono tG,Nat.zero_le _⟩⟩ ?_ ?_ ?_⟩
    · rintro i σ H3 hi ⟨k,kept,past,z5,z6,z7,z8,z9,z10,z11,z12,rfl,bG,_⟩
      exact SqL.of (bG _ _ npc gc)
    · rintro i o σ H3 hi ⟨k,kept,past,z5,z6,z7,z8,z9,z10,z11,z12,rfl,bG,lv,hk3,sd⟩
      have i66 : i < 70 := by
        have h1 := (List.getElem?_eq_some_iff.mp hi).1
        have lcut := cutV_length (ss.map V.int) none (some 40)
        rw [List.length_map] at lcut
        rw [List.length_append] at h1
        simp only [List.length_cons,List.length_nil] at h1
        omega
      obtain ⟨c,rfl⟩ := cells3 hi
      have hbl3 := bG _ _ nbl (tG _ _ hbl)
      have hpl3 := bG _ _ npl (tG _ _ hpl)
      have hws3 : Ws H3 nl ws := ⟨bG _ _ nnl (tG _ _ hws10.lst),hws10.ne,hws10.few,hws10.nm⟩
      refine ⟨_,rfl,_,_,rfl,rfl,⟨by decide,by decide,by decide⟩,c,9,_,rfl,by decide,⟨by decide +kernel,by decide +kernel⟩,fun pn ns H4 hn hns s4 f4 => ?_⟩
      obtain ⟨n0,n1,n2,n3,n4,n5,n6,n7,n8,rfl⟩ := len9 hn
      have nb : ∀ n ∈ [n0,n1,n2,n3,n4,n5,n6,n7,n8],Nb n := fun n h => hns n h
      have q0 := Int.emod_nonneg n0 (show (5 : Int) ≠ 0 by decide)
      have q1 := Int.emod_lt_of_pos n0 (show (0 : Int) < 5 by decide)
      refine ⟨_,rfl,pn,_,_,_,rfl,rfl,SqL.of f4,rfl,_,_,rfl,rfl,(by show (0 : Int) < 5; decide),_,_,rfl,rfl,⟨by decide,bits_le (m := 5) (by decide +kernel) (by decide)⟩,?_⟩
      have hwi : 0 ≤ n0 % 5 / 4 ∧ n0 % 5 / 4 < 2 := by omega
      generalize n0 % 5 / 4 = wi at *
      obtain ⟨w,rfl⟩ : ∃ w : Nat,wi = (w : Int) := ⟨wi.toNat,by omega⟩
      have hw : w < 2 := by omega
      have r0 := Int.emod_nonneg n1 (show (6 : Int) ≠ 0 by decide)
      have r1 := Int.emod_lt_of_pos n1 (show (0 : Int) < 6 by decide)
      refine ⟨_,rfl,pn,_,_,_,rfl,rfl,SqL.of f4,rfl,_,_,rfl,rfl,(by show (0 : Int) < 6; decide),?_⟩
      generalize n1 % 6 = wyi at *
      obtain ⟨way,rfl⟩ : ∃ w : Nat,wyi = (w : Int) := ⟨wyi.toNat,by omega⟩
      have h5 : way ≤ 5 := by omega
      refine ⟨_,rfl,_,rfl,_,rfl,pn,_,rfl,SqL.of f4,fun q5 H5 s5 f5 m5 => ⟨_,rfl,q5,nl,n2,n3,ws,rfl,f5,hws3.mono (s4.trans s5),fun x H6 s6 nm6 iff hx6 => ?_⟩⟩
      refine ⟨_,rfl,_,rfl,pn,_,rfl,SqL.of (s6 _ _ (s5 _ _ f4)),fun q7 H7 s7 f7 m7 => ⟨q7,n4,n5,n6,n7,n8,rfl,f7,⟨nb _ (by simp),nb _ (by simp),nb _ (by simp),nb _ (by simp)⟩,fun y lo H8 s8 lt fy => ?_⟩⟩
      have S7 : Same H3 H7 := s4.trans (s5.trans (s6.trans s7))
      have S8 : Same H3 H8 := S7.trans s8
      have fy3 : ∀ a,y = .ref a → H3 a = none := fun a h => Same.free S7 (fy a h)
      have fx3 : ∀ l,x = .ref l → H3 l = none ∧ H8 l = some (.lst [.str (Str.ofString "a")]) := fun l h => ⟨Same.free (s4.trans s5) (hx6 l h).1,s8 _ _ (s7 _ _ (hx6 l h).2)⟩
      have fxy : ∀ l,x = .ref l → ∀ a,y = .ref a → l ≠ a := fun l h a h' z => by
        have := fy a h'
        rw [← z,s7 _ _ (hx6 l h).2] at this
        cases this
      obtain ⟨ly,yl⟩ := lt.yl
      have hly3 : ∀ a ∈ ly,H3 a = none := fun a ha => fy3 a (yl.ref a ha)
      have nly : ∀ a ∈ M,a ∉ ly := fun a m h => (lv a m).1 (hly3 a h)
      have hM' : ∀ a ∈ ly ++ M,a ∈ M ∨ H3 a = none := fun a ha => (List.mem_append.mp ha).elim (fun h => .inr (hly3 a h)) .inl
      have up : ∀ a ∈ M,a ∈ ly ++ M := fun a m => List.mem_append_right _ m
      have lv8 : Live (ly ++ M) H8 := fun a ha => (List.mem_append.mp ha).elim (fun h => yl.lv a h) (fun h => lv.mono S8 a h)
      have sd8 : ∀ j,j < 2 → Side (ly ++ M) C_Book H8 (b j) (e j) (p j) (k j) (kept j) (past j) := fun j hj => ((sd j hj).1.re hM').mono S8
      have nxM : ∀ l,x = .ref l → l ∉ ly ++ M := fun l h m => (List.mem_append.mp m).elim (fun h' => fxy l h l (yl.ref l h') rfl) (fun h' => (lv l h').1 (fx3 l h).1)
      have nyM : ∀ a,y = .ref a → a ∉ M := fun a h m => (lv a m).1 (fy3 a h)
      have nm8 := nm6.mono (s7.trans s8)
      refine ⟨_,rfl,_,rfl,kl,_,_,_,rfl,rfl,SqL.of (S8 _ _ hk3),at_w hw,_,rfl,_,rfl,pl,_,_,_,rfl,rfl,SqL.of (S8 _ _ hpl3),at_w hw,_,rfl,_,rfl,_,rfl,_,rfl,k w,p w,way,x,y,nl,ly ++ M,kept w,past w,lo,ws,rfl,(sd8 w hw).bo,(sd8 w hw).pa,(sd8 w hw).gd.len,nm8,lt,S8 _ _ hws3.lst,iff,h5,fun H9 s9 => ?_⟩
      have S9 := S8.trans s9
      have sd9 := fun j hj => (sd8 j hj).mono s9
      have lv9 := lv8.mono s9
      have op9 : Open (ly ++ M) C_Book H9 (b w) (e w) (kept w) (past w) := ⟨(sd9 w hw).bk,lv9,up _ (mb w hw),up _ (me w hw),(sd9 w hw).gd,by have := (sd w hw).2; omega⟩
      refine ⟨_,rfl,_,rfl,bl,_,_,_,rfl,rfl,SqL.of (S9 _ _ hbl3),at_w hw,_,rfl,_,rfl,_,rfl,b w,way,x,y,ly ++ M,e w,kept w,past w,lo,rfl,op9,nm8.mono s9,(lt.mono s9).o,h5,fun H11 bt bk11 => ?_⟩
      refine ⟨_,rfl,rfl,_,rfl,iteFalse (by simp) ?_⟩
      refine ⟨_,rfl,rfl,_,rfl,?_⟩
      rw [wrd0 deed_le]
      have sub : ∀ a ∈ [b w,e w],a ∈ M := fun a ha => by
        simp only [List.mem_cons,List.not_mem_nil,or_false] at ha
        rcases ha with rfl | rfl
        · exact mb w hw
        · exact me w hw
      have hN : ∀ a ∈ [b w,e w],a ∈ ly ++ M ∨ H9 a = none := fun a ha => .inl (up a (sub a ha))
      have two_ne : ∀ {a : Addr},a ≠ b w → a ≠ e w → a ∉ [b w,e w] := fun {a} h1 h2 m => by
        simp only [List.mem_cons,List.not_mem_nil,or_false] at m
        rcases m with z | z
        · exact h1 z
        · exact h2 z
      have lv11 : Live (ly ++ M) H11 := lv9.go bt fun a ha => by
        obtain ⟨dx,kk,g1,g2,g3⟩ := bk11.ex
        obtain ⟨ks,_,g4,_⟩ := g3.ex
        simp only [List.mem_cons,List.not_mem_nil,or_false] at ha
        rcases ha with rfl | rfl
        · rw [g1]; exact ⟨by simp,fun xs => by simp⟩
        · rw [g4]; exact ⟨by simp,fun xs => by simp⟩
      have sdo : ∀ j,j < 2 → j ≠ w → Side (ly ++ M) C_Book H11 (b j) (e j) (p j) (k j) (kept j) (past j) := fun j hj h => (sd9 j hj).go bt hN (two_ne (sp.bb j w hj hw h) (sp.be j w hj hw)) (two_ne (fun z => sp.be w j hw hj z.symm) (sp.ee j w hj hw h)) (two_ne (fun z => sp.bp w j hw hj z.symm) (fun z => sp.ep w j hw hj z.symm))
      have bo11 := (sd9 w hw).bo.go bt hN
      have pa11 := (sd9 w hw).pa.go bt hN (two_ne (fun z => sp.bp w w hw hw z.symm) (fun z => sp.ep w w hw hw z.symm))
      have hk11 := bt _ _ (two_ne (sp.kb w hw) (sp.ke w hw)) (S9 _ _ hk3)
      have hbl11 := bt _ _ (fun m => nbl (sub bl m)) (S9 _ _ hbl3)
      have hpl11 := bt _ _ (fun m => npl (sub pl m)) (S9 _ _ hpl3)
      have nm11 : Nm H11 x := (nm8.mono s9).go bt fun l h => ⟨fun m => nxM l h (up l (sub l m)),s9 _ _ (fx3 l h).2⟩
      have hx11 : ∀ l,x = .ref l → H11 l = some (.lst [.str (Str.ofString "a")]) := fun l h => bt _ _ (fun m => nxM l h (up l (sub l m))) (s9 _ _ (fx3 l h).2)
      have B11 : But (ly ++ M) H3 H11 := (But.of S9).trans (bt.wide fun a ha => up a (sub a ha))
      refine ite3 (fun c0 => ?_) (fun c0 => ?_)
      · have c0' : (deed way x lo (kept w) (past w)).1 = 0 := of_decide_eq_true c0
        obtain ⟨gd1,gd2,gd3⟩ := deed_good h5 (sd w hw).1.gd (sd w hw).1.gp (fun cs ecs => by
          subst ecs
          cases lt with
          | ok L h => rw [List.length_map]; omega) c0'
        have lt11 : LnT H11 y lo := (lt.mono s9).go bt (fun a ha xs h => (lv9 a (up a (sub a ha))).2 xs h) (fun a h m => nyM a h (sub a m))
        have yl11 : YL H11 y ly := (yl.go (N := []) (.of s9) (by simp)).go bt (fun a h m => nyM a h (sub a m))
        refine ⟨_,rfl,_,rfl,kl,_,_,_,rfl,rfl,SqL.of (hk11),at_w hw,_,rfl,_,rfl,pl,_,_,_,rfl,rfl,SqL.of (hpl11),at_w hw,_,rfl,_,rfl,_,rfl,k w,p w,way,x,y,ly ++ M,kept w,past w,lo,rfl,lv11,bo11,pa11,(sd w hw).1.gd.len,lt11,h5,c0',fun kb H12 s12 bo12 => ?_⟩
        have fin12 : ∀ H13,But [p w] H12 H13 → Pa (ly ++ M) H13 (p w) (deed way x lo (kept w) (past w)).2.2 → H13 kl = some (.lst [.ref (k 0),.ref (k 1)]) ∧ YL H13 y ly ∧ ∀ H14,But (kl :: ly) H13 H14 → H14 kl = some (.lst [.ref (put2 k w kb 0),.ref (put2 k w kb 1)]) → (∀ a ∈ ly,H14 a ≠ none ∧ ∀ xs,H14 a ≠ some (.tup xs)) →
            H14 bl = some (.lst [.ref (b 0),.ref (b 1)]) ∧ BookR (ly ++ M) C_Book H14 (b w) (e w) (deed way x lo (kept w) (past w)).2.1 (deed way x lo (kept w) (past w)).2.2 ∧ Bo (ly ++ M) H14 (put2 k w kb w) (deed way x lo (kept w) (past w)).2.1 ∧ Nm H14 x ∧
            ∀ H15,Same H14 H15 → But M G H15 ∧ Live M H15 ∧ H15 kl = some (.lst [.ref (put2 k w kb 0),.ref (put2 k w kb 1)]) ∧ ∀ j,j < 2 → Side M C_Book H15 (b j) (e j) (p j) (put2 k w kb j) (put2 kept w (deed way x lo (kept w) (past w)).2.1 j) (put2 past w (deed way x lo (kept w) (past w)).2.2 j) ∧ (put2 past w (deed way x lo (kept w) (past w)).2.2 j).length ≤ i + 1 := by
          intro H13 b13 pa13
          have sub13 : ∀ a ∈ [p w],a ∈ M := fun a ha => by rw [List.mem_singleton.mp ha]; exact mp w hw
          have h13 : ∀ a ∈ [p w],a ∈ ly ++ M ∨ H12 a = none := fun a ha => .inl (up a (sub13 a ha))
          have one : ∀ {a : Addr},a ≠ p w → a ∉ [p w] := fun {a} h m => h (List.mem_singleton.mp m)
          have bk13 := (bk11.mono s12).go b13 h13 (one (sp.bp w w hw hw)) (one (sp.ep w w hw hw))
          have bo13 := bo12.go b13 h13
          have sdo13 := fun j hj (h : j ≠ w) => ((sdo j hj h).mono s12).go b13 h13 (one (sp.bp j w hj hw)) (one (sp.ep j w hj hw)) (one (sp.pp j w hj hw h))
          have hk13 := b13 _ _ (one (sp.kp w hw)) (s12 _ _ hk11)
          have hbl13 := b13 _ _ (fun m => nbl (sub13 bl m)) (s12 _ _ hbl11)
          have hx13 : ∀ l,x = .ref l → H13 l = some (.lst [.str (Str.ofString "a")]) := fun l h => b13 _ _ (fun m => nxM l h (up l (sub13 l m))) (s12 _ _ (hx11 l h))
          have nm13 : Nm H13 x := (nm11.mono s12).go b13 fun l h => ⟨fun m => nxM l h (up l (sub13 l m)),s12 _ _ (hx11 l h)⟩
          have lv13 : Live (ly ++ M) H13 := (lv11.mono s12).go b13 fun a ha => by
            obtain ⟨ks,_,g4,_⟩ := pa13.ex
            rw [List.mem_singleton.mp ha,g4]
            exact ⟨by simp,fun xs => by simp⟩
          have yl13 : YL H13 y ly := (yl11.go (N := []) (.of s12) (by simp)).go b13 (fun a h m => nyM a h (sub13 a m))
          have B13 : But (ly ++ M) H3 H13 := (B11.trans (.of s12)).trans (b13.wide fun a ha => up a (sub13 a ha))
          refine ⟨hk13,yl13,fun H14 b14 hk14 hl14 => ?_⟩
          have sub14 : ∀ a ∈ kl :: ly,a ∈ ly ++ M := fun a ha => (List.mem_cons.mp ha).elim (fun h => by rw [h]; exact up _ mk) (fun h => List.mem_append_left _ h)
          have h14 : ∀ a ∈ kl :: ly,a ∈ ly ++ M ∨ H13 a = none := fun a ha => .inl (sub14 a ha)
          have not14 : ∀ {a : Addr},a ≠ kl → a ∈ M → a ∉ kl :: ly := fun {a} h m z => (List.mem_cons.mp z).elim h (nly a m)
          have nb14 : ∀ j,j < 2 → b j ∉ kl :: ly := fun j hj => not14 (fun z => sp.kb j hj z.symm) (mb j hj)
          have ne14 : ∀ j,j < 2 → e j ∉ kl :: ly := fun j hj => not14 (fun z => sp.ke j hj z.symm) (me j hj)
          have np14 : ∀ j,j < 2 → p j ∉ kl :: ly := fun j hj => not14 (fun z => sp.kp j hj z.symm) (mp j hj)
          have bk14 := bk13.go b14 h14 (nb14 w hw) (ne14 w hw)
          have bo14 := bo13.go b14 h14
          have pa14 := pa13.go b14 h14 (np14 w hw)
          have sdo14 := fun j hj (h : j ≠ w) => (sdo13 j hj h).go b14 h14 (nb14 j hj) (ne14 j hj) (np14 j hj)
          have nbl14 : bl ∉ kl :: ly := fun z => (List.mem_cons.mp z).elim (fun h => nbl (by rw [h]; exact mk)) (fun h => by have := hly3 bl h; rw [hbl3] at this; cases this)
          have hbl14 := b14 _ _ nbl14 hbl13
          have nm14 : Nm H14 x := nm13.go b14 fun l h => ⟨fun m => nxM l h (sub14 l m),hx13 l h⟩
          have lv14 : Live (ly ++ M) H14 := lv13.go b14 fun a ha => (List.mem_cons.mp ha).elim (fun h => by rw [h,hk14]; exact ⟨by simp,fun xs => by simp⟩) (fun h => hl14 a h)
          refine ⟨hbl14,bk14,by rw [put2_same]; exact bo14,nm14,fun H15 s15 => ⟨bG.trans (((B13.trans (b14.wide sub14)).trans (.of s15)).less hM'),fun a m => lv14.mono s15 a (up a m),s15 _ _ hk14,fun j hj => ?_⟩⟩
          by_cases h : j = w
          · subst h
            rw [put2_same,put2_same,put2_same]
            refine ⟨((⟨bk14,bo14,pa14,gd1,gd2⟩ : Side (ly ++ M) C_Book H14 _ _ _ _ _ _).re fun a m => .inl (up a m)).mono s15,?_⟩
            have := (sd j hj).2
            omega
          · rw [put2_ne h,put2_ne h,put2_ne h]
            exact ⟨((sdo14 j hj h).re fun a m => .inl (up a m)).mono s15,by have := (sd j hj).2; omega⟩
        have hpl12 := s12 _ _ hpl11
        have pa12 : Pa (ly ++ M) H12 (p w) (past w) := pa11.go (N := []) (.of s12) (by simp) (by simp)
        obtain ⟨ks,eks,hp12,hks⟩ := pa12.ex
        have lks : ks.length = (past w).length := by rw [← eks,List.length_map]
        have nyk : ∀ a,y = .ref a → a ≠ kl := fun a h z => nyM a h (by rw [z]; exact mk)
        have h13 : ∀ a ∈ [p w],a ∈ ly ++ M ∨ H12 a = none := fun a ha => .inl (up a (by rw [List.mem_singleton.mp ha]; exact mp w hw))
        refine ⟨_,rfl,rfl,_,rfl,ite3 (fun c5 => ?_) (fun c5 => ?_)⟩
        · have w5 : way = 5 := by
            have : (way : Int) = 5 := by simpa using c5
            omega
          subst w5
          obtain ⟨ps,q,ep,ed⟩ := deed_50 c0'
          rcases List.eq_nil_or_concat ks with rfl | ⟨ks',⟨a,q'⟩,rfl⟩
          · rw [ep] at eks
            have := congrArg List.length eks
            simp at this
          have hx : List.map (fun r : Addr × Bk => V.ref r.1) (ks'.concat (a,q')) = ks'.map (fun r => V.ref r.1) ++ [.ref a] := by simp
          rw [hx] at hp12
          refine ⟨_,rfl,_,rfl,pl,_,_,_,rfl,rfl,SqL.of (hpl12),at_w hw,.inl ⟨rfl,_,SqL.of hp12⟩,p w,_,.ref a,rfl,rfl,hp12,by simp,fun H13 u13 => ?_⟩
          have b13 : But [p w] H12 H13 := But.upd u13 (by simp)
          have pa13 : Pa (ly ++ M) H13 (p w) (deed 5 x lo (kept w) (past w)).2.2 := by
            rw [ed]
            refine ⟨ks',?_,by rw [u13.now]; simp,fun r hr => (hks r (by simp [hr])).go b13 h13⟩
            have : ks'.map (·.2) ++ [q'] = ps ++ [q] := by rw [← ep,← eks]; simp
            exact (List.append_inj' this rfl).1
          obtain ⟨g1,g2,g3⟩ := fin12 H13 b13 pa13
          refine hR1 _ ly w k kb kl y _ _ _ _ _ _ _ _ H13 hw g1 g2 nyk fun H14 b14 hk14 hl14 => ?_
          obtain ⟨g4,g5,g6,g7,g8⟩ := g3 H14 b14 hk14 hl14
          exact hR _ (ly ++ M) w b (put2 k w kb) (e w) _ _ x _ _ _ _ _ _ _ _ bl kl H14 hw g4 hk14 g5 g6 gd1 g7 fun H15 s15 => ⟨put2 k w kb,put2 kept w _,put2 past w _,_,_,_,_,_,_,_,_,rfl,g8 H15 s15⟩
        · have w5 : way ≠ 5 := fun z => by
            subst z
            exact absurd c5 (by decide)
          have hn := (sd w hw).2
          refine ⟨_,rfl,_,rfl,pl,_,_,_,rfl,rfl,SqL.of (hpl12),at_w hw,.inl ⟨rfl,_,SqL.of hp12⟩,_,rfl,_,rfl,kl,_,_,_,rfl,rfl,SqL.of (s12 _ _ hk11),at_w hw,p w,_,_,rfl,rfl,hp12,by rw [sizeLine_eq,List.length_map]; omega,fun H13 u13 => ?_⟩
          have b13 : But [p w] H12 H13 := But.upd u13 (by simp)
          have bok12 := bo11.mono s12
          have pa13 : Pa (ly ++ M) H13 (p w) (deed way x lo (kept w) (past w)).2.2 := by
            rw [deed_past h5 w5 c0']
            refine ⟨ks ++ [(k w,kept w)],by rw [List.map_append,eks]; rfl,by rw [u13.now,List.map_append]; rfl,fun r hr => ?_⟩
            rcases List.mem_append.mp hr with hr | hr
            · exact (hks r hr).go b13 h13
            · rw [List.mem_singleton.mp hr]
              exact bok12.go b13 h13
          obtain ⟨g1,g2,g3⟩ := fin12 H13 b13 pa13
          refine hR1 _ ly w k kb kl y _ _ _ _ _ _ _ _ H13 hw g1 g2 nyk fun H14 b14 hk14 hl14 => ?_
          obtain ⟨g4,g5,g6,g7,g8⟩ := g3 H14 b14 hk14 hl14
          exact hR _ (ly ++ M) w b (put2 k w kb) (e w) _ _ x _ _ _ _ _ _ _ _ bl kl H14 hw g4 hk14 g5 g6 gd1 g7 fun H15 s15 => ⟨put2 k w kb,put2 kept w _,put2 past w _,_,_,_,_,_,_,_,_,rfl,g8 H15 s15⟩
      · have c0' : (deed way x lo (kept w) (past w)).1 ≠ 0 := fun z => by rw [z] at c0; exact absurd c0 (by decide)
        have e2 := (deed_err c0').2
        rw [e2] at bk11
        refine hR _ (ly ++ M) w b k (e w) (kept w) (past w) x _ _ _ _ _ _ _ _ bl kl H11 hw hbl11 hk11 bk11 bo11 (sd w hw).1.gd nm11 fun H12 s12 => ?_
        refine ⟨k,kept,past,_,_,_,_,_,_,_,_,rfl,bG.trans ((B11.trans (.of s12)).less hM'),fun a m => lv11.mono s12 a (up a m),s12 _ _ hk11,fun j hj => ⟨?_,by have := (sd j hj).2; omega⟩⟩
        by_cases h : j = w
        · subst h
          exact ((⟨bk11,bo11,pa11,(sd j hj).1.gd,(sd j hj).1.gp⟩ : Side (ly ++ M) C_Book H11 _ _ _ _ _ _).re fun a m => .inl (up a m)).mono s12
        · exact ((sdo j hj h).re fun a m => .inl (up a m)).mono s12
    · rintro σ H3 ⟨k,kept,past,z5,z6,z7,z8,z9,z10,z11,z12,rfl,bG,lv,hk3,sd⟩
      have hbl3 := bG _ _ nbl (tG _ _ hbl)
      have d0 := (sd 0 (by decide)).1
      have d1 := (sd 1 (by decide)).1
      refine ⟨_,rfl,bl,_,_,_,rfl,rfl,SqL.of hbl3,rfl,_,rfl,kl,_,_,_,rfl,rfl,SqL.of hk3,rfl,b 0,k 0,M,e 0,kept 0,past 0,rfl,d0.bk,d0.bo,d0.gd,fun H4 s4 => ⟨_,rfl,iteTrue rfl ?_⟩⟩
      refine ⟨_,rfl,bl,_,_,_,rfl,rfl,SqL.of (s4 _ _ hbl3),rfl,_,rfl,kl,_,_,_,rfl,rfl,SqL.of (s4 _ _ hk3),rfl,b 1,k 1,M,e 1,kept 1,past 1,rfl,d1.bk.mono s4,d1.bo.mono s4,d1.gd,fun H5 s5 => ⟨_,rfl,iteTrue rfl ?_⟩⟩
      have s45 := s4.trans s5
      exact ⟨_,rfl,bl,_,_,_,rfl,rfl,SqL.of (s45 _ _ hbl3),rfl,_,rfl,kl,_,_,_,rfl,rfl,SqL.of (s45 _ _ hk3),rfl,b 0,k 0,M,e 0,kept 0,past 0,rfl,d0.bk.mono s45,d0.bo.mono s45,d0.gd,fun H6 s6 => fin _⟩
end
theorem hLeft : PySem.W.LeftO PySem.Challenge.rw_oneleash_k62_book_of_lines.prog hView hLoose (fun _ => true) (PySem.W.Hook.obs (Hd.hook hFacts hGood)) (PySem.W.Hook.val (Hd.hook hFacts hGood)) 100000 := hAll
theorem all_of {P : Program} {w : World} {K : PySem.W.Frag} (FK : hFacts K = hGood) {h : Heap} {mg : Str → Option Value} {fa : Addr} (X : K.In h) (G : h.Ns mainGlobals mg) (hfa : mg "law" = some (.ref fa)) :
    ∃ fd : FuncData,(∀ (s : Shared) (v : Value),BindsTo s fd ⟨[v],[]⟩ [("script",v)]) ∧ ∀ base : Heap,K.In base → base.Ns mainGlobals mg → FnOk P w K mg base CX0 9 fa fd ["script"] (spLaw K) := by
  have H0 : (hNames0.map (fun p => Hd.fnFact K p.1) : List (Option (Arguments × List Stmt × Scope × Value))) = hNames0.map (fun p => some (defArgs (top p.2),defBody (top p.2),defScope (top p.2),.none)) := (congrArg Prod.fst FK)
  have H1 : (hNamesD.map (fun p => Hd.fnFactD K p.1) : List (Option (Arguments × List Stmt × Scope × List V))) = hNamesD.map (fun p => some (defArgs (top p.2.1),defBody (top p.2.1),defScope (top p.2.1),p.2.2)) := (congrArg Prod.fst (congrArg Prod.snd FK))
  have H2 : (hExc.all (Hd.excFact K) : Bool) = true := (congrArg Prod.fst (congrArg Prod.snd (congrArg Prod.snd FK)))
  have H3 : (hNo.all (Hd.noFact K) : Bool) = true := (congrArg Prod.fst (congrArg Prod.snd (congrArg Prod.snd (congrArg Prod.snd FK))))
  have H4 : (hTup.map (fun p => Hd.tupFact K p.1) : List (Option (List V))) = hTup.map (fun p => some p.2) := (congrArg Prod.fst (congrArg Prod.snd (congrArg Prod.snd (congrArg Prod.snd (congrArg Prod.snd FK)))))
  have H5 : (hOwn.all (Hd.ownFact K) : Bool) = true := (congrArg Prod.fst (congrArg Prod.snd (congrArg Prod.snd (congrArg Prod.snd (congrArg Prod.snd (congrArg Prod.snd FK))))))
  have H6 : (hMt.map (fun p => Hd.mtFact K p.1 p.2.1 p.2.2.1) : List (Option (Arguments × List Stmt × Scope × Value))) = hMt.map (fun p => some (defArgs p.2.2.2,defBody p.2.2.2,defScope p.2.2.2,.none)) := (congrArg Prod.fst (congrArg Prod.snd (congrArg Prod.snd (congrArg Prod.snd (congrArg Prod.snd (congrArg Prod.snd (congrArg Prod.snd FK)))))))
  have H7 : (hEq0 K : List (Option (Option V))) = hVal0 := (congrArg Prod.fst (congrArg Prod.snd (congrArg Prod.snd (congrArg Prod.snd (congrArg Prod.snd (congrArg Prod.snd (congrArg Prod.snd (congrArg Prod.snd FK))))))))
  have H8 : (hEq1 K : List (Option (Option Value))) = hVal1 := (congrArg Prod.fst (congrArg Prod.snd (congrArg Prod.snd (congrArg Prod.snd (congrArg Prod.snd (congrArg Prod.snd (congrArg Prod.snd (congrArg Prod.snd (congrArg Prod.snd FK)))))))))
  have H9 : (hEq2 K : List (Option Bool)) = hVal2 := (congrArg Prod.fst (congrArg Prod.snd (congrArg Prod.snd (congrArg Prod.snd (congrArg Prod.snd (congrArg Prod.snd (congrArg Prod.snd (congrArg Prod.snd (congrArg Prod.snd (congrArg Prod.snd FK))))))))))
  have H10 : (hEq3 K : List (Bool)) = hVal3 := (congrArg Prod.snd (congrArg Prod.snd (congrArg Prod.snd (congrArg Prod.snd (congrArg Prod.snd (congrArg Prod.snd (congrArg Prod.snd (congrArg Prod.snd (congrArg Prod.snd (congrArg Prod.snd FK))))))))))
  have D_is_whole : Df K mg "is_whole" (top 12) := Hd.df_of X G (Hd.at_map H0 0 rfl)
  have D_is_small : Df K mg "is_small" (top 16) := Hd.df_of X G (Hd.at_map H0 1 rfl)
  have D_is_corner : Df K mg "is_corner" (top 17) := Hd.df_of X G (Hd.at_map H0 2 rfl)
  have D_is_line : Df K mg "is_line" (top 18) := Hd.df_of X G (Hd.at_map H0 3 rfl)
  have D_line_of : Df K mg "line_of" (top 19) := Hd.df_of X G (Hd.at_map H0 4 rfl)
  have D_is_name : Df K mg "is_name" (top 25) := Hd.df_of X G (Hd.at_map H0 5 rfl)
  have D_law_mixed : Df K mg "_law_mixed" (top 28) := Hd.df_of X G (Hd.at_map H0 6 rfl)
  have D_law_numbers : Df K mg "_law_numbers" (top 29) := Hd.df_of X G (Hd.at_map H0 7 rfl)
  have D_law_names : Df K mg "_law_names" (top 30) := Hd.df_of X G (Hd.at_map H0 8 rfl)
  have D_law_corners : Df K mg "_law_corners" (top 31) := Hd.df_of X G (Hd.at_map H0 9 rfl)
  have D_law_word : Df K mg "_law_word" (top 32) := Hd.df_of X G (Hd.at_map H0 10 rfl)
  have D_law_thing : Df K mg "_law_thing" (top 33) := Hd.df_of X G (Hd.at_map H0 11 rfl)
  have D_law_line : Df K mg "_law_line" (top 34) := Hd.df_of X G (Hd.at_map H0 12 rfl)
  have D_law_is_line : Df K mg "_law_is_line" (top 35) := Hd.df_of X G (Hd.at_map H0 13 rfl)
  have D_law_due : Df K mg "_law_due" (top 36) := Hd.df_of X G (Hd.at_map H0 14 rfl)
  have D_law_behind : Df K mg "_law_behind" (top 37) := Hd.df_of X G (Hd.at_map H0 15 rfl)
  have D_law_done : Df K mg "_law_done" (top 38) := Hd.df_of X G (Hd.at_map H0 16 rfl)
  have D_law_line_stands : Df K mg "_law_line_stands" (top 39) := Hd.df_of X G (Hd.at_map H0 17 rfl)
  have D_law_stands : Df K mg "_law_stands" (top 40) := Hd.df_of X G (Hd.at_map H0 18 rfl)
  have D_law : Df K mg "law" (top 41) := Hd.df_of X G (Hd.at_map H0 19 rfl)
  have O_LeashError : ExcC K mg "LeashError" (Hd.cls K "LeashError") := Hd.exc_of X G (Hd.at_all H2 0 rfl)
  have O_NoName : ExcC K mg "NoName" (Hd.cls K "NoName") := Hd.exc_of X G (Hd.at_all H2 1 rfl)
  have O_Twice : ExcC K mg "Twice" (Hd.cls K "Twice") := Hd.exc_of X G (Hd.at_all H2 2 rfl)
  have O_NoLine : ExcC K mg "NoLine" (Hd.cls K "NoLine") := Hd.exc_of X G (Hd.at_all H2 3 rfl)
  have O_TooMany : ExcC K mg "TooMany" (Hd.cls K "TooMany") := Hd.exc_of X G (Hd.at_all H2 4 rfl)
  have O_NoSquare : ExcC K mg "NoSquare" (Hd.cls K "NoSquare") := Hd.exc_of X G (Hd.at_all H2 5 rfl)
  have O_NoDeed : ExcC K mg "NoDeed" (Hd.cls K "NoDeed") := Hd.exc_of X G (Hd.at_all H2 6 rfl)
  have O_NoRow : ExcC K mg "NoRow" (Hd.cls K "NoRow") := Hd.exc_of X G (Hd.at_all H2 7 rfl)
  have O_NoLines : ExcC K mg "NoLines" (Hd.cls K "NoLines") := Hd.exc_of X G (Hd.at_all H2 8 rfl)
  have T : Txt mg := ⟨PySem.W.mg_none_of X G (Hd.no_of (Hd.at_all H3 0 rfl)),PySem.W.mg_none_of X G (Hd.no_of (Hd.at_all H3 1 rfl)),PySem.W.mg_none_of X G (Hd.no_of (Hd.at_all H3 2 rfl)),PySem.W.mg_none_of X G (Hd.no_of (Hd.at_all H3 3 rfl)),PySem.W.mg_none_of X G (Hd.no_of (Hd.at_all H3 4 rfl)),PySem.W.mg_none_of X G (Hd.no_of (Hd.at_all H3 5 rfl)),PySem.W.mg_none_of X G (Hd.no_of (Hd.at_all H3 6 rfl)),PySem.W.mg_none_of X G (Hd.no_of (Hd.at_all H3 7 rfl)),PySem.W.mg_none_of X G (Hd.no_of (Hd.at_all H3 8 rfl)),PySem.W.mg_none_of X G (Hd.no_of (Hd.at_all H3 9 rfl))⟩
  have c_LARGEST : (PySem.W.nsIn K mainGlobals "LARGEST").map (fun o => o.map Hd.bareV) = some (some (.int 999999999999)) := Hd.at_two H7 0 rfl rfl
  have c_MOST_CORNERS : (PySem.W.nsIn K mainGlobals "MOST_CORNERS").map (fun o => o.map Hd.bareV) = some (some (.int 10)) := Hd.at_two H7 1 rfl rfl
  have c_MOST_LINES : (PySem.W.nsIn K mainGlobals "MOST_LINES").map (fun o => o.map Hd.bareV) = some (some (.int 6)) := Hd.at_two H7 2 rfl rfl
  have c_MOST_LETTERS : (PySem.W.nsIn K mainGlobals "MOST_LETTERS").map (fun o => o.map Hd.bareV) = some (some (.int 8)) := Hd.at_two H7 3 rfl rfl
  have c_LETTERS : (PySem.W.nsIn K mainGlobals "LETTERS").map (fun o => o.map Hd.bareV) = some (some (.str (Str.ofString "abcdefghijklmnopqrstuvwxyz"))) := Hd.at_two H7 4 rfl rfl
  have c_NOTHING : (PySem.W.nsIn K mainGlobals "NOTHING").map (fun o => o.map Hd.bareV) = some (some (.str (Str.ofString "none"))) := Hd.at_two H7 5 rfl rfl
  have sa_Book : PySem.W.findIn K (.ref (Hd.cls K "Book")) "__setattr__" = some (some (.builtin "object.__setattr__")) := Hd.at_two H8 0 rfl rfl
  have n_kept : PySem.W.findIn K (.ref (Hd.cls K "Book")) "kept" = some none := Hd.at_two H8 1 rfl rfl
  have n_earlier : PySem.W.findIn K (.ref (Hd.cls K "Book")) "earlier" = some none := Hd.at_two H8 2 rfl rfl
  have m_NoName : PySem.W.exmOne K (.ref (Hd.cls K "NoName")) (.ref (Hd.cls K "LeashError")) = some true := Hd.exmR_one (Hd.at_two H9 0 rfl rfl)
  have iv_NoName : PySem.W.kitOne K (.ref (Hd.cls K "NoName")) (.type "ValueError") = some true := Hd.kitT_one (Hd.at_two H9 1 rfl rfl)
  have i_NoName_NoName : PySem.W.kitOne K (.ref (Hd.cls K "NoName")) (.ref (Hd.cls K "NoName")) = some true := Hd.kitR_one (Hd.at_two H9 2 rfl rfl)
  have i_NoName_Twice : PySem.W.kitOne K (.ref (Hd.cls K "NoName")) (.ref (Hd.cls K "Twice")) = some false := Hd.kitR_one (Hd.at_two H9 3 rfl rfl)
  have i_NoName_NoLine : PySem.W.kitOne K (.ref (Hd.cls K "NoName")) (.ref (Hd.cls K "NoLine")) = some false := Hd.kitR_one (Hd.at_two H9 4 rfl rfl)
  have i_NoName_TooMany : PySem.W.kitOne K (.ref (Hd.cls K "NoName")) (.ref (Hd.cls K "TooMany")) = some false := Hd.kitR_one (Hd.at_two H9 5 rfl rfl)
  have i_NoName_NoSquare : PySem.W.kitOne K (.ref (Hd.cls K "NoName")) (.ref (Hd.cls K "NoSquare")) = some false := Hd.kitR_one (Hd.at_two H9 6 rfl rfl)
  have i_NoName_NoDeed : PySem.W.kitOne K (.ref (Hd.cls K "NoName")) (.ref (Hd.cls K "NoDeed")) = some false := Hd.kitR_one (Hd.at_two H9 7 rfl rfl)
  have i_NoName_NoRow : PySem.W.kitOne K (.ref (Hd.cls K "NoName")) (.ref (Hd.cls K "NoRow")) = some false := Hd.kitR_one (Hd.at_two H9 8 rfl rfl)
  have i_NoName_NoLines : PySem.W.kitOne K (.ref (Hd.cls K "NoName")) (.ref (Hd.cls K "NoLines")) = some false := Hd.kitR_one (Hd.at_two H9 9 rfl rfl)
  have m_Twice : PySem.W.exmOne K (.ref (Hd.cls K "Twice")) (.ref (Hd.cls K "LeashError")) = some true := Hd.exmR_one (Hd.at_two H9 10 rfl rfl)
  have iv_Twice : PySem.W.kitOne K (.ref (Hd.cls K "Twice")) (.type "ValueError") = some true := Hd.kitT_one (Hd.at_two H9 11 rfl rfl)
  have i_Twice_NoName : PySem.W.kitOne K (.ref (Hd.cls K "Twice")) (.ref (Hd.cls K "NoName")) = some false := Hd.kitR_one (Hd.at_two H9 12 rfl rfl)
  have i_Twice_Twice : PySem.W.kitOne K (.ref (Hd.cls K "Twice")) (.ref (Hd.cls K "Twice")) = some true := Hd.kitR_one (Hd.at_two H9 13 rfl rfl)
  have i_Twice_NoLine : PySem.W.kitOne K (.ref (Hd.cls K "Twice")) (.ref (Hd.cls K "NoLine")) = some false := Hd.kitR_one (Hd.at_two H9 14 rfl rfl)
  have i_Twice_TooMany : PySem.W.kitOne K (.ref (Hd.cls K "Twice")) (.ref (Hd.cls K "TooMany")) = some false := Hd.kitR_one (Hd.at_two H9 15 rfl rfl)
  have i_Twice_NoSquare : PySem.W.kitOne K (.ref (Hd.cls K "Twice")) (.ref (Hd.cls K "NoSquare")) = some false := Hd.kitR_one (Hd.at_two H9 16 rfl rfl)
  have i_Twice_NoDeed : PySem.W.kitOne K (.ref (Hd.cls K "Twice")) (.ref (Hd.cls K "NoDeed")) = some false := Hd.kitR_one (Hd.at_two H9 17 rfl rfl)
  have i_Twice_NoRow : PySem.W.kitOne K (.ref (Hd.cls K "Twice")) (.ref (Hd.cls K "NoRow")) = some false := Hd.kitR_one (Hd.at_two H9 18 rfl rfl)
  have i_Twice_NoLines : PySem.W.kitOne K (.ref (Hd.cls K "Twice")) (.ref (Hd.cls K "NoLines")) = some false := Hd.kitR_one (Hd.at_two H9 19 rfl rfl)
  have m_NoLine : PySem.W.exmOne K (.ref (Hd.cls K "NoLine")) (.ref (Hd.cls K "LeashError")) = some true := Hd.exmR_one (Hd.at_two H9 20 rfl rfl)
  have iv_NoLine : PySem.W.kitOne K (.ref (Hd.cls K "NoLine")) (.type "ValueError") = some true := Hd.kitT_one (Hd.at_two H9 21 rfl rfl)
  have i_NoLine_NoName : PySem.W.kitOne K (.ref (Hd.cls K "NoLine")) (.ref (Hd.cls K "NoName")) = some false := Hd.kitR_one (Hd.at_two H9 22 rfl rfl)
  have i_NoLine_Twice : PySem.W.kitOne K (.ref (Hd.cls K "NoLine")) (.ref (Hd.cls K "Twice")) = some false := Hd.kitR_one (Hd.at_two H9 23 rfl rfl)
  have i_NoLine_NoLine : PySem.W.kitOne K (.ref (Hd.cls K "NoLine")) (.ref (Hd.cls K "NoLine")) = some true := Hd.kitR_one (Hd.at_two H9 24 rfl rfl)
  have i_NoLine_TooMany : PySem.W.kitOne K (.ref (Hd.cls K "NoLine")) (.ref (Hd.cls K "TooMany")) = some false := Hd.kitR_one (Hd.at_two H9 25 rfl rfl)
  have i_NoLine_NoSquare : PySem.W.kitOne K (.ref (Hd.cls K "NoLine")) (.ref (Hd.cls K "NoSquare")) = some false := Hd.kitR_one (Hd.at_two H9 26 rfl rfl)
  have i_NoLine_NoDeed : PySem.W.kitOne K (.ref (Hd.cls K "NoLine")) (.ref (Hd.cls K "NoDeed")) = some false := Hd.kitR_one (Hd.at_two H9 27 rfl rfl)
  have i_NoLine_NoRow : PySem.W.kitOne K (.ref (Hd.cls K "NoLine")) (.ref (Hd.cls K "NoRow")) = some false := Hd.kitR_one (Hd.at_two H9 28 rfl rfl)
  have i_NoLine_NoLines : PySem.W.kitOne K (.ref (Hd.cls K "NoLine")) (.ref (Hd.cls K "NoLines")) = some false := Hd.kitR_one (Hd.at_two H9 29 rfl rfl)
  have m_TooMany : PySem.W.exmOne K (.ref (Hd.cls K "TooMany")) (.ref (Hd.cls K "LeashError")) = some true := Hd.exmR_one (Hd.at_two H9 30 rfl rfl)
  have iv_TooMany : PySem.W.kitOne K (.ref (Hd.cls K "TooMany")) (.type "ValueError") = some true := Hd.kitT_one (Hd.at_two H9 31 rfl rfl)
  have i_TooMany_NoName : PySem.W.kitOne K (.ref (Hd.cls K "TooMany")) (.ref (Hd.cls K "NoName")) = some false := Hd.kitR_one (Hd.at_two H9 32 rfl rfl)
  have i_TooMany_Twice : PySem.W.kitOne K (.ref (Hd.cls K "TooMany")) (.ref (Hd.cls K "Twice")) = some false := Hd.kitR_one (Hd.at_two H9 33 rfl rfl)
  have i_TooMany_NoLine : PySem.W.kitOne K (.ref (Hd.cls K "TooMany")) (.ref (Hd.cls K "NoLine")) = some false := Hd.kitR_one (Hd.at_two H9 34 rfl rfl)
  have i_TooMany_TooMany : PySem.W.kitOne K (.ref (Hd.cls K "TooMany")) (.ref (Hd.cls K "TooMany")) = some true := Hd.kitR_one (Hd.at_two H9 35 rfl rfl)
  have i_TooMany_NoSquare : PySem.W.kitOne K (.ref (Hd.cls K "TooMany")) (.ref (Hd.cls K "NoSquare")) = some false := Hd.kitR_one (Hd.at_two H9 36 rfl rfl)
  have i_TooMany_NoDeed : PySem.W.kitOne K (.ref (Hd.cls K "TooMany")) (.ref (Hd.cls K "NoDeed")) = some false := Hd.kitR_one (Hd.at_two H9 37 rfl rfl)
  have i_TooMany_NoRow : PySem.W.kitOne K (.ref (Hd.cls K "TooMany")) (.ref (Hd.cls K "NoRow")) = some false := Hd.kitR_one (Hd.at_two H9 38 rfl rfl)
  have i_TooMany_NoLines : PySem.W.kitOne K (.ref (Hd.cls K "TooMany")) (.ref (Hd.cls K "NoLines")) = some false := Hd.kitR_one (Hd.at_two H9 39 rfl rfl)
  have m_NoDeed : PySem.W.exmOne K (.ref (Hd.cls K "NoDeed")) (.ref (Hd.cls K "LeashError")) = some true := Hd.exmR_one (Hd.at_two H9 40 rfl rfl)
  have iv_NoDeed : PySem.W.kitOne K (.ref (Hd.cls K "NoDeed")) (.type "ValueError") = some true := Hd.kitT_one (Hd.at_two H9 41 rfl rfl)
  have i_NoDeed_NoName : PySem.W.kitOne K (.ref (Hd.cls K "NoDeed")) (.ref (Hd.cls K "NoName")) = some false := Hd.kitR_one (Hd.at_two H9 42 rfl rfl)
  have i_NoDeed_Twice : PySem.W.kitOne K (.ref (Hd.cls K "NoDeed")) (.ref (Hd.cls K "Twice")) = some false := Hd.kitR_one (Hd.at_two H9 43 rfl rfl)
  have i_NoDeed_NoLine : PySem.W.kitOne K (.ref (Hd.cls K "NoDeed")) (.ref (Hd.cls K "NoLine")) = some false := Hd.kitR_one (Hd.at_two H9 44 rfl rfl)
  have i_NoDeed_TooMany : PySem.W.kitOne K (.ref (Hd.cls K "NoDeed")) (.ref (Hd.cls K "TooMany")) = some false := Hd.kitR_one (Hd.at_two H9 45 rfl rfl)
  have i_NoDeed_NoSquare : PySem.W.kitOne K (.ref (Hd.cls K "NoDeed")) (.ref (Hd.cls K "NoSquare")) = some false := Hd.kitR_one (Hd.at_two H9 46 rfl rfl)
  have i_NoDeed_NoDeed : PySem.W.kitOne K (.ref (Hd.cls K "NoDeed")) (.ref (Hd.cls K "NoDeed")) = some true := Hd.kitR_one (Hd.at_two H9 47 rfl rfl)
  have i_NoDeed_NoRow : PySem.W.kitOne K (.ref (Hd.cls K "NoDeed")) (.ref (Hd.cls K "NoRow")) = some false := Hd.kitR_one (Hd.at_two H9 48 rfl rfl)
  have i_NoDeed_NoLines : PySem.W.kitOne K (.ref (Hd.cls K "NoDeed")) (.ref (Hd.cls K "NoLines")) = some false := Hd.kitR_one (Hd.at_two H9 49 rfl rfl)
  have fa_NoName : PySem.W.findIn K (.ref (Hd.cls K "NoName")) "__getattribute__" = some (some (.builtin "BaseException.__getattribute__")) := Hd.findR_eq (Hd.fE_ga K) (Hd.at_two H10 0 rfl rfl)
  have fb_NoName : PySem.W.findIn K (.ref (Hd.cls K "NoName")) "__getattr__" = some none := Hd.findR_eq (Hd.fE_gn K) (Hd.at_two H10 1 rfl rfl)
  have fc_NoName : PySem.W.findIn K (.ref (Hd.cls K "NoName")) "__class__" = some (some (.builtin "object.__class__")) := Hd.findR_eq (Hd.fE_cl K) (Hd.at_two H10 2 rfl rfl)
  have fa_Twice : PySem.W.findIn K (.ref (Hd.cls K "Twice")) "__getattribute__" = some (some (.builtin "BaseException.__getattribute__")) := Hd.findR_eq (Hd.fE_ga K) (Hd.at_two H10 3 rfl rfl)
  have fb_Twice : PySem.W.findIn K (.ref (Hd.cls K "Twice")) "__getattr__" = some none := Hd.findR_eq (Hd.fE_gn K) (Hd.at_two H10 4 rfl rfl)
  have fc_Twice : PySem.W.findIn K (.ref (Hd.cls K "Twice")) "__class__" = some (some (.builtin "object.__class__")) := Hd.findR_eq (Hd.fE_cl K) (Hd.at_two H10 5 rfl rfl)
  have fa_NoLine : PySem.W.findIn K (.ref (Hd.cls K "NoLine")) "__getattribute__" = some (some (.builtin "BaseException.__getattribute__")) := Hd.findR_eq (Hd.fE_ga K) (Hd.at_two H10 6 rfl rfl)
  have fb_NoLine : PySem.W.findIn K (.ref (Hd.cls K "NoLine")) "__getattr__" = some none := Hd.findR_eq (Hd.fE_gn K) (Hd.at_two H10 7 rfl rfl)
  have fc_NoLine : PySem.W.findIn K (.ref (Hd.cls K "NoLine")) "__class__" = some (some (.builtin "object.__class__")) := Hd.findR_eq (Hd.fE_cl K) (Hd.at_two H10 8 rfl rfl)
  have fa_TooMany : PySem.W.findIn K (.ref (Hd.cls K "TooMany")) "__getattribute__" = some (some (.builtin "BaseException.__getattribute__")) := Hd.findR_eq (Hd.fE_ga K) (Hd.at_two H10 9 rfl rfl)
  have fb_TooMany : PySem.W.findIn K (.ref (Hd.cls K "TooMany")) "__getattr__" = some none := Hd.findR_eq (Hd.fE_gn K) (Hd.at_two H10 10 rfl rfl)
  have fc_TooMany : PySem.W.findIn K (.ref (Hd.cls K "TooMany")) "__class__" = some (some (.builtin "object.__class__")) := Hd.findR_eq (Hd.fE_cl K) (Hd.at_two H10 11 rfl rfl)
  have fa_NoDeed : PySem.W.findIn K (.ref (Hd.cls K "NoDeed")) "__getattribute__" = some (some (.builtin "BaseException.__getattribute__")) := Hd.findR_eq (Hd.fE_ga K) (Hd.at_two H10 12 rfl rfl)
  have fb_NoDeed : PySem.W.findIn K (.ref (Hd.cls K "NoDeed")) "__getattr__" = some none := Hd.findR_eq (Hd.fE_gn K) (Hd.at_two H10 13 rfl rfl)
  have fc_NoDeed : PySem.W.findIn K (.ref (Hd.cls K "NoDeed")) "__class__" = some (some (.builtin "object.__class__")) := Hd.findR_eq (Hd.fE_cl K) (Hd.at_two H10 14 rfl rfl)
  have O_Book : OwnC K mg "Book" (Hd.cls K "Book") := Hd.own_of X G (Hd.at_all H5 0 rfl) sa_Book
  have D_Book___init : DfM K (Hd.cls K "Book") "__init__" "Book.__init__" (mtop 26 0) := Hd.dfm_of (Hd.at_map H6 0 rfl)
  have D_Book_change_to : DfM K (Hd.cls K "Book") "change_to" "Book.change_to" (mtop 26 1) := Hd.dfm_of (Hd.at_map H6 1 rfl)
  have D_Book_change_line : DfM K (Hd.cls K "Book") "change_line" "Book.change_line" (mtop 26 2) := Hd.dfm_of (Hd.at_map H6 2 rfl)
  have D_Book_names : DfM K (Hd.cls K "Book") "names" "Book.names" (mtop 26 3) := Hd.dfm_of (Hd.at_map H6 3 rfl)
  have D_Book_line : DfM K (Hd.cls K "Book") "line" "Book.line" (mtop 26 4) := Hd.dfm_of (Hd.at_map H6 4 rfl)
  have D_Book_put : DfM K (Hd.cls K "Book") "put" "Book.put" (mtop 26 5) := Hd.dfm_of (Hd.at_map H6 5 rfl)
  have D_Book_strike : DfM K (Hd.cls K "Book") "strike" "Book.strike" (mtop 26 6) := Hd.dfm_of (Hd.at_map H6 6 rfl)
  have D_Book_turn : DfM K (Hd.cls K "Book") "turn" "Book.turn" (mtop 26 7) := Hd.dfm_of (Hd.at_map H6 7 rfl)
  have D_Book_back : DfM K (Hd.cls K "Book") "back" "Book.back" (mtop 26 9) := Hd.dfm_of (Hd.at_map H6 8 rfl)
  refine law_fd h hfa fun base => ?_
  have wd : Wd K mg (clK K) (Hd.cls K "LeashError") [Hd.cls K "NoName",Hd.cls K "Twice",Hd.cls K "NoLine",Hd.cls K "TooMany",Hd.cls K "NoSquare",Hd.cls K "NoDeed",Hd.cls K "NoRow",Hd.cls K "NoLines"] := by
    refine ⟨fun c hc => ?_,fun c hc => ?_,fun c hc => ?_,fun c hc j D hD => ?_,fun c hc => ?_⟩ <;> rcases five hc with rfl | rfl | rfl | rfl | rfl
    · exact ⟨_,O_NoName⟩
    · exact ⟨_,O_Twice⟩
    · exact ⟨_,O_NoLine⟩
    · exact ⟨_,O_TooMany⟩
    · exact ⟨_,O_NoDeed⟩
    · exact ⟨fa_NoName,fb_NoName,fc_NoName⟩
    · exact ⟨fa_Twice,fb_Twice,fc_Twice⟩
    · exact ⟨fa_NoLine,fb_NoLine,fc_NoLine⟩
    · exact ⟨fa_TooMany,fb_TooMany,fc_TooMany⟩
    · exact ⟨fa_NoDeed,fb_NoDeed,fc_NoDeed⟩
    · exact iv_NoName
    · exact iv_Twice
    · exact iv_NoLine
    · exact iv_TooMany
    · exact iv_NoDeed
    · match j,hD with
      | 0,hD => exact (Option.some.inj hD) ▸ i_NoName_NoName
      | 1,hD => exact (Option.some.inj hD) ▸ i_NoName_Twice
      | 2,hD => exact (Option.some.inj hD) ▸ i_NoName_NoLine
      | 3,hD => exact (Option.some.inj hD) ▸ i_NoName_TooMany
      | 4,hD => exact (Option.some.inj hD) ▸ i_NoName_NoSquare
      | 5,hD => exact (Option.some.inj hD) ▸ i_NoName_NoDeed
      | 6,hD => exact (Option.some.inj hD) ▸ i_NoName_NoRow
      | 7,hD => exact (Option.some.inj hD) ▸ i_NoName_NoLines
      | j + 8,hD => exact absurd hD (by simp)
    · match j,hD with
      | 0,hD => exact (Option.some.inj hD) ▸ i_Twice_NoName
      | 1,hD => exact (Option.some.inj hD) ▸ i_Twice_Twice
      | 2,hD => exact (Option.some.inj hD) ▸ i_Twice_NoLine
      | 3,hD => exact (Option.some.inj hD) ▸ i_Twice_TooMany
      | 4,hD => exact (Option.some.inj hD) ▸ i_Twice_NoSquare
      | 5,hD => exact (Option.some.inj hD) ▸ i_Twice_NoDeed
      | 6,hD => exact (Option.some.inj hD) ▸ i_Twice_NoRow
      | 7,hD => exact (Option.some.inj hD) ▸ i_Twice_NoLines
      | j + 8,hD => exact absurd hD (by simp)
    · match j,hD with
      | 0,hD => exact (Option.some.inj hD) ▸ i_NoLine_NoName
      | 1,hD => exact (Option.some.inj hD) ▸ i_NoLine_Twice
      | 2,hD => exact (Option.some.inj hD) ▸ i_NoLine_NoLine
      | 3,hD => exact (Option.some.inj hD) ▸ i_NoLine_TooMany
      | 4,hD => exact (Option.some.inj hD) ▸ i_NoLine_NoSquare
      | 5,hD => exact (Option.some.inj hD) ▸ i_NoLine_NoDeed
      | 6,hD => exact (Option.some.inj hD) ▸ i_NoLine_NoRow
      | 7,hD => exact (Option.some.inj hD) ▸ i_NoLine_NoLines
      | j + 8,hD => exact absurd hD (by simp)
    · match j,hD with
      | 0,hD => exact (Option.some.inj hD) ▸ i_TooMany_NoName
      | 1,hD => exact (Option.some.inj hD) ▸ i_TooMany_Twice
      | 2,hD => exact (Option.some.inj hD) ▸ i_TooMany_NoLine
      | 3,hD => exact (Option.some.inj hD) ▸ i_TooMany_TooMany
      | 4,hD => exact (Option.some.inj hD) ▸ i_TooMany_NoSquare
      | 5,hD => exact (Option.some.inj hD) ▸ i_TooMany_NoDeed
      | 6,hD => exact (Option.some.inj hD) ▸ i_TooMany_NoRow
      | 7,hD => exact (Option.some.inj hD) ▸ i_TooMany_NoLines
      | j + 8,hD => exact absurd hD (by simp)
    · match j,hD with
      | 0,hD => exact (Option.some.inj hD) ▸ i_NoDeed_NoName
      | 1,hD => exact (Option.some.inj hD) ▸ i_NoDeed_Twice
      | 2,hD => exact (Option.some.inj hD) ▸ i_NoDeed_NoLine
      | 3,hD => exact (Option.some.inj hD) ▸ i_NoDeed_TooMany
      | 4,hD => exact (Option.some.inj hD) ▸ i_NoDeed_NoSquare
      | 5,hD => exact (Option.some.inj hD) ▸ i_NoDeed_NoDeed
      | 6,hD => exact (Option.some.inj hD) ▸ i_NoDeed_NoRow
      | 7,hD => exact (Option.some.inj hD) ▸ i_NoDeed_NoLines
      | j + 8,hD => exact absurd hD (by simp)
    · exact m_NoName
    · exact m_Twice
    · exact m_NoLine
    · exact m_TooMany
    · exact m_NoDeed
  have F_is_whole := fn_is_whole (P := P) (w := w) (base := base) D_is_whole T
  have F_is_small := fn_is_small (P := P) (w := w) (base := base) D_is_small (Hd.int_of X G c_LARGEST) F_is_whole
  have F_is_corner := fn_is_corner (P := P) (w := w) (base := base) D_is_corner F_is_small T
  have F_is_line := fn_is_line (P := P) (w := w) (base := base) D_is_line (Hd.int_of X G c_MOST_CORNERS) F_is_corner T
  have F_line_of := fn_line_of (P := P) (w := w) (base := base) D_line_of O_NoLine F_is_line
  have F_law_mixed := fn_law_mixed (P := P) (w := w) (base := base) D_law_mixed
  have F_law_numbers := fn_law_numbers (P := P) (w := w) (base := base) D_law_numbers F_law_mixed T
  have F_is_name := fn_is_name (P := P) (w := w) (base := base) D_is_name (Hd.str_of X G c_LETTERS) (Hd.str_of X G c_NOTHING) (Hd.int_of X G c_MOST_LETTERS) T
  have F_Book___init := fn_Book___init (P := P) (w := w) (base := base) D_Book___init O_Book n_kept n_earlier T
  have F_Book_change_to := fn_Book_change_to (P := P) (w := w) (base := base) D_Book_change_to O_Book n_kept n_earlier T
  have F_Book_names := fn_Book_names (P := P) (w := w) (base := base) D_Book_names O_Book n_kept n_earlier T
  have F_Book_line := fn_Book_line (P := P) (w := w) (base := base) D_Book_line (cl := clK K) O_Book n_kept n_earlier O_NoName F_is_name T
  have F_Book_back := fn_Book_back (P := P) (w := w) (base := base) D_Book_back (cl := clK K) O_Book n_kept n_earlier O_NoDeed T
  have F_Book_change_line := fn_Book_change_line (P := P) (w := w) (base := base) D_Book_change_line O_Book n_kept n_earlier F_Book_change_to T
  have F_Book_strike := fn_Book_strike (P := P) (w := w) (base := base) D_Book_strike (cl := clK K) O_Book n_kept n_earlier F_Book_change_to F_Book_line T
  have F_Book_turn := fn_Book_turn (P := P) (w := w) (base := base) D_Book_turn (cl := clK K) O_Book n_kept n_earlier F_Book_line F_Book_change_line T
  have F_Book_put := fn_Book_put (P := P) (w := w) (base := base) D_Book_put (cl := clK K) O_Book n_kept n_earlier (Hd.int_of X G c_MOST_LINES) O_NoName O_Twice O_TooMany F_is_name F_Book_names F_line_of F_Book_change_to T
  have F_law_word := fn_law_word (P := P) (w := w) (base := base) D_law_word (cl := clK K) O_NoName O_Twice O_NoLine O_TooMany O_NoSquare O_NoDeed O_NoRow O_NoLines wd T
  have F_law_done := fn_law_done (P := P) (w := w) (base := base) D_law_done (cl := clK K) O_Book O_LeashError wd F_Book_put F_Book_strike F_Book_turn F_Book_back F_law_word T
  have F_law_is_line := fn_law_is_line (P := P) (w := w) (base := base) D_law_is_line T
  have F_law_due := fn_law_due (P := P) (w := w) (base := base) D_law_due F_law_is_line T
  have F_law_behind := fn_law_behind (P := P) (w := w) (base := base) D_law_behind T
  have F_law_line_stands := fn_law_line_stands (P := P) (w := w) (base := base) D_law_line_stands (cl := clK K) O_Book O_LeashError wd F_Book_line F_law_word T
  have F_law_stands := fn_law_stands (P := P) (w := w) (base := base) D_law_stands (cl := clK K) O_Book F_Book_names F_Book_line T
  have F_law_corners := fn_law_corners (P := P) (w := w) (base := base) D_law_corners T
  have F_law_thing := fn_law_thing (P := P) (w := w) (base := base) D_law_thing T
  have F_law_line := fn_law_line (P := P) (w := w) (base := base) D_law_line F_law_corners T
  have F_law_names := fn_law_names (P := P) (w := w) (base := base) D_law_names T
  exact fn_law D_law (cl := clK K) O_Book F_law_names F_Book___init F_law_numbers F_law_thing F_law_line F_law_due F_law_done F_law_behind F_Book_names F_law_line_stands F_law_stands T
end K62
end
open PySem PySem.W PyProof.Rows
set_option maxRecDepth 100000 in
set_option maxHeartbeats 0 in
theorem PySem.Challenge.cw_oneleash_k62_book_of_lines_holds : PySem.Challenge.rw_oneleash_k62_book_of_lines.Holds := by
  w_on; o_law
  refine holds_open (q := K62.hView) (loose := K62.hLoose) (Xt := fun _ => true) (XP := fun _ _ => True) (Yf := Hook.obs (Hd.hook K62.hFacts K62.hGood)) (Ya := Hook.val (Hd.hook K62.hFacts K62.hGood)) (YP := Hook.says (Hd.hook K62.hFacts K62.hGood)) (N := 100000) K62.hLeft (Hook.of _) (Hook.keeps _) (fun _ _ => trivial) (fun _ _ _ _ _ => trivial) (by rfl) (by rfl) (by rfl) (fun _ _ => recFacts_nil rfl) (by rfl) (by first | assumption | decide +kernel) (by decide +kernel) ⟨rfl,rfl,rfl,rfl,rfl,by decide +kernel⟩ ?hw ?hc
  case hw => w_witness2
  exact Hd.law_walk (l := PySem.Challenge.rw_oneleash_k62_book_of_lines) (k := 9) ⟨rfl,by decide,by decide,rfl⟩ rfl rfl fun K FK w mg fa h KX G hmg => K62.all_of FK KX G hmg
