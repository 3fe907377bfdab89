import PyProof.Rows.All
import Wide.All
import OpenK.AllK
import Wide.FinOn
import Lean
import PyProof.EqAt
import PyProof.EqKinds
import PyProof.TupleCall
import PyProof.ExcArgsOwn
import KE.KTryMore
import PyProof.NsDelKeeps
import PyProof.ConsumeWalk
import PyProof.ZipIter
import PyProof.WalksEnum
import PyProof.EnumMake
import PyProof.NeKinds
import PyProof.CompMap
import KE.KIntText
import PyProof.StrWalks
import KE.KRevIter
import PyProof.ListRange
import KE.KSliceW
import PySem.Challenge.RW_oneleash_k59_papers_written_and_read
section
set_option Elab.async false
set_option linter.all false
set_option maxRecDepth 100000
namespace L2
open PySem PySem.Spec PyProof.Rows
abbrev Key := Sum Int Str
def keyIs : Key → Value → Bool
  | .inl k,v => Value.isInt k v
  | .inr x,v => Value.isStrOf x v
def keyH (w : World) : Key → Int
  | .inl k => hashInt k
  | .inr x => hashStr w x
theorem keyIs_shape : ∀ {k : Key} {v : Value},keyIs k v = true → (∃ i t,k = Sum.inl i ∧ v = Value.int i t) ∨ (∃ x t,k = Sum.inr x ∧ v = Value.str x t)
  | .inl i,v,h => by
    obtain ⟨t,e⟩ := Value.isInt_shape (k := i) (v := v) h
    exact .inl ⟨i,t,rfl,e⟩
  | .inr x,v,h => by
    obtain ⟨t,e⟩ := Value.isStrOf_shape (x := x) (v := v) h
    exact .inr ⟨x,t,rfl,e⟩
theorem key_ll (a b : Int) : decide ((Sum.inl a : Key) = Sum.inl b) = (a == b) := by
  by_cases e : a = b
  · subst e; simp
  · have h : ¬ (Sum.inl a : Key) = Sum.inl b := fun q => e (Sum.inl.inj q)
    rw [decide_eq_false h]
    exact (beq_eq_false_iff_ne.mpr e).symm
theorem key_rr (a b : Str) : decide ((Sum.inr a : Key) = Sum.inr b) = decide (a = b) := by
  by_cases e : a = b
  · subst e; simp
  · have h : ¬ (Sum.inr a : Key) = Sum.inr b := fun q => e (Sum.inr.inj q)
    rw [decide_eq_false h,decide_eq_false e]
theorem key_lr (a : Int) (b : Str) : decide ((Sum.inl a : Key) = Sum.inr b) = false := decide_eq_false (fun q => nomatch q)
theorem key_rl (a : Str) (b : Int) : decide ((Sum.inr a : Key) = Sum.inl b) = false := decide_eq_false (fun q => nomatch q)
def mixKind (prog : Program) (w : World) : PySem.KeyKind prog w Key where
  is := keyIs
  hash := keyH w
  inj := fun v a b ha hb => by
    rcases keyIs_shape ha with ⟨i,t,rfl,rfl⟩ | ⟨x,t,rfl,rfl⟩
    · rcases keyIs_shape hb with ⟨j,u,rfl,e⟩ | ⟨y,u,rfl,e⟩
      · injection e with e1 _; rw [e1]
      · exact nomatch e
    · rcases keyIs_shape hb with ⟨j,u,rfl,e⟩ | ⟨y,u,rfl,e⟩
      · exact nomatch e
      · injection e with e1 _; rw [e1]
  byValue := fun k v h => by
    rcases keyIs_shape h with ⟨i,t,rfl,rfl⟩ | ⟨x,t,rfl,rfl⟩ <;> rfl
  pyHash := fun hv h => by
    rcases keyIs_shape hv with ⟨i,t,rfl,rfl⟩ | ⟨x,t,rfl,rfl⟩
    · exact wpAny_pyHash_int h
    · exact wpAny_pyHash_str h
  eqBool := fun hu hv h => by
    rcases keyIs_shape hu with ⟨i,t,rfl,rfl⟩ | ⟨x,t,rfl,rfl⟩
    · rcases keyIs_shape hv with ⟨j,u,rfl,rfl⟩ | ⟨y,u,rfl,rfl⟩
      · rw [key_ll] at h; exact wpAny_eqBool_int h
      · rw [key_lr] at h; exact SeqAt.EqAt.int_str i t y u _ _ _ _ h
    · rcases keyIs_shape hv with ⟨j,u,rfl,rfl⟩ | ⟨y,u,rfl,rfl⟩
      · rw [key_rl] at h; exact SeqAt.EqAt.str_int x t j u _ _ _ _ h
      · rw [key_rr] at h; exact wpAny_eqBool_str h
  «strs» := fun k x t v h => by
    rcases keyIs_shape h with ⟨i,u,rfl,e⟩ | ⟨y,u,rfl,e⟩
    · exact nomatch e
    · injection e with e1 _
      subst e1
      cases v <;> rfl
end L2
namespace L2
open PySem PySem.Spec PyProof.Rows
inductive V where
  | non | bl (b : Bool) | int (i : Int) | str (x : Str) | byt (b : Array UInt8) | flt (b : UInt64) | ref (a : Addr) | ty (n : String)
  deriving DecidableEq
def RelV : V → Value → Prop
  | .non,u => u = Value.none
  | .bl b,u => u = Value.bool b
  | .int i,u => ∃ t,u = Value.int i t
  | .str x,u => ∃ t,u = Value.str x t
  | .byt b,u => ∃ t,u = Value.bytes b t
  | .flt b,u => ∃ t,u = Value.float b t
  | .ref a,u => u = Value.ref a
  | .ty n,u => u = Value.type n
abbrev Vals : List V → List Value → Prop := Paired RelV
theorem Vals.length {xs : List V} {us : List Value} (r : Vals xs us) : xs.length = us.length := Paired.length r
theorem Vals.get : ∀ {xs : List V} {us : List Value} {i : Nat} {x : V},Vals xs us → xs[i]? = some x → ∃ u,us[i]? = some u ∧ RelV x u
  | _,_,_,_,.nil,e => by simp at e
  | _,_,0,_,.cons r _,e => by simp at e; subst e; exact ⟨_,rfl,r⟩
  | _,_,i + 1,x,.cons _ t,e => by
    obtain ⟨u,h1,h2⟩ := Vals.get (i := i) (x := x) t (by simpa using e)
    exact ⟨u,by simpa using h1,h2⟩
theorem Vals.set {x : V} {u : Value} (r : RelV x u) : ∀ {xs : List V} {us : List Value} (i : Nat),Vals xs us → Vals (xs.set i x) (us.set i u)
  | _,_,_,.nil => .nil
  | _,_,0,.cons _ t => .cons r t
  | _,_,i + 1,.cons q t => .cons q (Vals.set r i t)
theorem Vals.append : ∀ {xs ys : List V} {us ws : List Value},Vals xs us → Vals ys ws → Vals (xs ++ ys) (us ++ ws)
  | _,_,_,_,.nil,s => s
  | _,_,_,_,.cons r t,s => .cons r (Vals.append t s)
theorem Vals.take : ∀ {xs : List V} {us : List Value} (n : Nat),Vals xs us → Vals (xs.take n) (us.take n)
  | _,_,0,_ => .nil
  | _,_,_ + 1,.nil => .nil
  | _,_,n + 1,.cons r t => .cons r (Vals.take n t)
theorem Vals.drop : ∀ {xs : List V} {us : List Value} (n : Nat),Vals xs us → Vals (xs.drop n) (us.drop n)
  | _,_,0,r => r
  | _,_,_ + 1,.nil => .nil
  | _,_,n + 1,.cons _ t => Vals.drop n t
def RelO : Option V → Option Value → Prop
  | some v,some u => RelV v u
  | none,none => True
  | _,_ => False
def KV {κ : Type} : List (κ × V) → List (κ × Value) → Prop := Paired fun (p : κ × V) (q : κ × Value) => p.1 = q.1 ∧ RelV p.2 q.2
def kV : Key → V
  | .inl i => .int i
  | .inr x => .str x
inductive HO where
  /-- a list -/
  | lst (xs : List V)
  /-- a tuple (never changes) -/
  | tup (xs : List V)
  /-- a dict whose keys are ints and texts; one whose keys are tuples of ints and texts (the empty one is both) -/
  | dK (kvs : List (Key × V)) | dT (kvs : List (List Key × V))
  /-- a set of ints: its members,its size -/
  | set (S : Int → Bool) (n : Nat)
  /-- an instance of the class at C,its dict at dx,its attributes -/
  | ins (C dx : Addr) (fs : List (Str × V))
  /-- the dict of the instance at x -/
  | own (x : Addr)
  /-- the dict of an exception -/
  | xd (fs : List (Str × V))
  /-- a bound method,f of x -/
  | met (f x : Addr)
  /-- a range object lo,lo + 1,.. below hi -/
  | rng (lo hi : Int)
  /-- a thing that is known to the object (the script; a dict while a loop walks it): read,never written while it is so -/
  | frz (o : Obj) (u : HO)
  /-- a code object's table -/
  | tbl (ps : Array Value)
  /-- any other thing,by what is true of its one object (a def of one's own: SetO a S n := HO.ext fun h => ..) -/
  | ext (φ : Heap → Prop)
abbrev Hp := Addr → Option HO
def upd (H : Hp) (a : Addr) (o : HO) : Hp := fun b => if b = a then some o else H b
theorem upd_same {H : Hp} {a : Addr} {o : HO} : upd H a o a = some o := by unfold upd; rw [if_pos rfl]
theorem upd_ne {H : Hp} {a b : Addr} {o : HO} (h : b ≠ a) : upd H a o b = H b := by unfold upd; rw [if_neg h]
theorem ne_of {H : Hp} {a b : Addr} {o u : HO} (h : H a = some o) (h' : H b = some u) (d : o ≠ u) : a ≠ b := by
  intro e; subst e; rw [h] at h'; exact d (Option.some.inj h')
theorem ne_of_none {H : Hp} {a b : Addr} {o : HO} (h : H a = some o) (h' : H b = none) : a ≠ b := by
  intro e; subst e; rw [h] at h'; cases h'
section
variable (P : Program) (w : World)
def ObjOk (H : Hp) (h : Heap) (a : Addr) : HO → Prop
  | .lst xs => xs.length ≤ sizeLine ∧ ∃ (its : List Value) (n : Nat),Vals xs its ∧ h.get? a = some { cls := .type "list",data := .seq its.toArray n }
  | .tup xs => xs.length ≤ sizeLine ∧ ∃ its : List Value,Vals xs its ∧ IsTup h a its.toArray
  | .dK kvs => kvs.length ≤ sizeLine ∧ (a == sysModules) = false ∧ ∃ vs,KV kvs vs ∧ h.DictOf (mixKind P w) a vs
  | .dT kvs => kvs.length ≤ sizeLine ∧ (a == sysModules) = false ∧ ∃ xs : List (List Key × Addr × Value),
      Paired (fun (p : List Key × V) (q : List Key × Addr × Value) => p.1 = q.1 ∧ H q.2.1 = some (.tup (p.1.map kV)) ∧ RelV p.2 q.2.2) kvs xs ∧
      ∃ o es ep,h.get? a = some o ∧ o.ExactDict ∧ o.data = .dict es ep ∧ es.toList = xs.map (entryOfKey (tupleKind (mixKind P w))) ∧ (xs.map (·.1)).Nodup
  | .set S n => h.SetOf (intKind P w) a S n
  | .ins C dx fs => H dx = some (.own a) ∧ fs.length ≤ 1000 ∧ dx ≠ a ∧ h.get? a = some (PySem.W.instObj C dx) ∧
      ∃ mA,h.Ns1 dx mA ∧ (∀ f,RelO (fs.lookup f) (mA f)) ∧ PySem.Within mA (fs.map (·.1))
  | .own _ => ∃ o,h.get? a = some o
  | .xd fs => ∃ mA,h.Ns1 a mA ∧ ∀ f,RelO (fs.lookup f) (mA f)
  | .rng lo hi => ∃ t u v,h.get? a = some { cls := .type "range",data := .fields #[.int lo t,.int hi u,.int 1 v] }
  | .frz o u => h.get? a = some o ∧ ObjOk H h a u
  | .tbl ps => h.get? a = some { cls := .none,data := .fields ps }
  | .met f x => h.get? a = some (PySem.W.methodObj (.ref f) (.ref x))
  | .ext φ => φ h ∧ (∃ o,h.get? a = some o) ∧ ∀ h1 h2 : Heap,φ h1 → (∀ o,h1.get? a = some o → h2.get? a = some o) → φ h2
def HOk (H : Hp) (h : Heap) : Prop := ∀ a o,H a = some o → ObjOk P w H h a o
end
section
variable {P : Program} {w : World} {H H' : Hp} {h h' : Heap} {a : Addr} {o : HO}
theorem ObjOk.lt (x : ObjOk P w H h a o) : a < h.objs.size := by
  cases o with
  | lst xs => obtain ⟨_,_,_,_,e⟩ := x; exact Heap.lt_size e
  | tup xs => obtain ⟨_,_,_,p⟩ := x; exact p.lt
  | dK kvs => obtain ⟨_,_,_,_,o,_,_,e,_⟩ := x; exact Heap.lt_size e
  | dT kvs => obtain ⟨_,_,_,_,o,_,_,e,_⟩ := x; exact Heap.lt_size e
  | set S n => obtain ⟨o,_,_,_,e,_⟩ := x; exact Heap.lt_size e
  | ins C dx fs => obtain ⟨_,_,_,e,_⟩ := x; exact Heap.lt_size e
  | own y => obtain ⟨_,e⟩ := x; exact Heap.lt_size e
  | xd fs => obtain ⟨_,⟨_,_,_,e,_⟩,_⟩ := x; exact Heap.lt_size e
  | rng lo hi => obtain ⟨_,_,_,e⟩ := x; exact Heap.lt_size e
  | frz ob u => obtain ⟨e,_⟩ := x; exact Heap.lt_size e
  | tbl ps => exact Heap.lt_size (show h.get? a = some _ from x)
  | met f y => exact Heap.lt_size (show h.get? a = some _ from x)
  | ext φ => obtain ⟨_,⟨_,e⟩,_⟩ := x; exact Heap.lt_size e
theorem Paired.mapP {α β : Type} {F G : α → β → Prop} : ∀ {l₁ : List α} {l₂ : List β},Paired F l₁ l₂ → (∀ a b,F a b → G a b) → Paired G l₁ l₂
  | _,_,.nil,_ => .nil
  | _,_,.cons r t,f => .cons (f _ _ r) (Paired.mapP t f)
theorem ObjOk.stay (x : ObjOk P w H h a o) (k : ∀ b u,(b = a ∨ H b = some (.own a)) → h.get? b = some u → h'.get? b = some u)
    (ho : ∀ b,H b = some (.own a) → H' b = some (.own a)) (ht : ∀ b xs,H b = some (.tup xs) → H' b = some (.tup xs)) : ObjOk P w H' h' a o := by
  induction o with
  | lst xs => obtain ⟨z,its,n,r,e⟩ := x; exact ⟨z,its,n,r,k _ _ (.inl rfl) e⟩
  | tup xs => obtain ⟨z,its,r,ob,e,c⟩ := x; exact ⟨z,its,r,ob,k _ _ (.inl rfl) e,c⟩
  | dK kvs => obtain ⟨z,y,vs,r,ob,es,ep,e,c⟩ := x; exact ⟨z,y,vs,r,ob,es,ep,k _ _ (.inl rfl) e,c⟩
  | dT kvs =>
    obtain ⟨z,y,xs,r,ob,es,ep,e,c⟩ := x
    exact ⟨z,y,xs,Paired.mapP r fun p q z => ⟨z.1,ht _ _ z.2.1,z.2.2⟩,ob,es,ep,k _ _ (.inl rfl) e,c⟩
  | set S n => obtain ⟨ob,es,ep,t,e,c⟩ := x; exact ⟨ob,es,ep,t,k _ _ (.inl rfl) e,c⟩
  | ins C dx fs =>
    obtain ⟨d,z,ne,e,mA,⟨od,es,ep,e2,c⟩,r⟩ := x
    exact ⟨ho _ d,z,ne,k _ _ (.inl rfl) e,mA,⟨od,es,ep,k _ _ (.inr d) e2,c⟩,r⟩
  | own y => obtain ⟨ob,e⟩ := x; exact ⟨ob,k _ _ (.inl rfl) e⟩
  | xd fs => obtain ⟨mA,⟨od,es,ep,e,c⟩,r⟩ := x; exact ⟨mA,⟨od,es,ep,k _ _ (.inl rfl) e,c⟩,r⟩
  | rng lo hi => obtain ⟨t,u,v,e⟩ := x; exact ⟨t,u,v,k _ _ (.inl rfl) e⟩
  | frz ob u ih => obtain ⟨e,q⟩ := x; exact ⟨k _ _ (.inl rfl) e,ih q⟩
  | tbl ps =>
    have e : h.get? a = some { cls := .none,data := .fields ps } := x
    show h'.get? a = some { cls := .none,data := .fields ps }
    exact k a _ (.inl rfl) e
  | met f y =>
    have e : h.get? a = some (PySem.W.methodObj (.ref f) (.ref y)) := x
    show h'.get? a = some (PySem.W.methodObj (.ref f) (.ref y))
    exact k a _ (.inl rfl) e
  | ext φ => obtain ⟨p,⟨o,e⟩,st⟩ := x; exact ⟨st _ _ p fun o q => k _ _ (.inl rfl) q,⟨o,k _ _ (.inl rfl) e⟩,st⟩
theorem HOk.lt (x : HOk P w H h) (e : H a = some o) : a < h.objs.size := (x a o e).lt
theorem HOk.fresh (x : HOk P w H h) (e : h.objs.size ≤ a) : H a = none := by
  cases q : H a with
  | none => rfl
  | some u => exact absurd (Nat.lt_of_lt_of_le (x.lt q) e) (Nat.lt_irrefl _)
theorem HOk.kept (x : HOk P w H h) (k : ∀ b u,h.get? b = some u → h'.get? b = some u) : HOk P w H h' := fun a o e =>
  (x a o e).stay (fun b u _ q => k b u q) (fun _ q => q) fun _ _ q => q
theorem HOk.laid (x : HOk P w H h) (k : ∀ b u,h.get? b = some u → h'.get? b = some u) (hp : h.objs.size ≤ a) (new : ObjOk P w (upd H a o) h' a o) : HOk P w (upd H a o) h' := fun b u e => by
  have hn := x.fresh hp
  by_cases hb : b = a
  · subst hb; rw [upd_same] at e; cases e; exact new
  · rw [upd_ne hb] at e
    exact (x b u e).stay (fun c v _ q => k c v q) (fun c q => by rw [upd_ne (ne_of_none q hn)]; exact q) fun c xs q => by rw [upd_ne (ne_of_none q hn)]; exact q
end
def Rd (H : Hp) (a : Addr) (u : HO) : Prop := H a = some u ∨ ∃ o,H a = some (.frz o u)
theorem Rd.ok {P : Program} {w : World} {H : Hp} {h : Heap} {a : Addr} {u : HO} (r : Rd H a u) (x : HOk P w H h) : ObjOk P w H h a u := by
  rcases r with r | ⟨o,r⟩
  · exact x a u r
  · obtain ⟨_,q⟩ := x a _ r
    exact q
def Mut : Option HO → Prop
  | some (.lst _) => True
  | some (.dK _) => True
  | some (.dT _) => True
  | some (.set _ _) => True
  | some (.ins _ _ _) => True
  | some (.ext _) => True
  | _ => False
section
variable {P : Program} {w : World} {H : Hp} {h h' : Heap} {x e : Addr} {o' : HO}
theorem HOk.write (ok : HOk P w H h) (mu : Mut (H x)) (he : e = x ∨ H e = some (.own x)) (k : ∀ b u,b ≠ e → h.get? b = some u → h'.get? b = some u) (heo : ∃ u,h'.get? e = some u)
    (new : ObjOk P w (upd H x o') h' x o') : HOk P w (upd H x o') h' := fun b u q => by
  have nown : ∀ c y,H c = some (.own y) → c ≠ x := fun c y r z => by subst z; rw [r] at mu; exact mu
  have ntup : ∀ c xs,H c = some (.tup xs) → c ≠ x := fun c xs r z => by subst z; rw [r] at mu; exact mu
  by_cases hb : b = x
  · subst hb; rw [upd_same] at q; cases q; exact new
  · rw [upd_ne hb] at q
    by_cases hbe : b = e
    · have q' : H b = some (.own x) := by
        rcases he with z | z
        · exact absurd (hbe.trans z) hb
        · rw [hbe]; exact z
      rw [q] at q'; cases q'
      obtain ⟨v,hv⟩ := heo
      exact ⟨v,by rw [hbe]; exact hv⟩
    · refine (ok b u q).stay (fun c v hc r => k c v ?_ r) (fun c r => by rw [upd_ne (nown c b r)]; exact r) fun c xs r => by rw [upd_ne (ntup c xs r)]; exact r
      rcases hc with rfl | hc
      · exact hbe
      · rintro rfl
        rcases he with z | z
        · exact nown c b hc z
        · rw [hc] at z; cases z; exact hb rfl
end
structure Un (fs ex : List Addr) (H H' : Hp) (h h' : Heap) : Prop where
  keep : ∀ b o,h.get? b = some o → H b = none → b ∉ fs → b ∉ ex → h'.get? b = some o
  slot : ∀ b o,h.get? b = some o → H b = none → b ∈ fs → b ∉ ex → ∃ sl,h'.get? b = some { o with slots := sl }
  free : ∀ b o,h.get? b = some o → H b = none → b ∉ ex → H' b = none
  there : ∀ b o,h.get? b = some o → b ∉ ex → ∃ o',h'.get? b = some o'
  tups : ∀ b xs,H b = some (.tup xs) → H' b = some (.tup xs)
  frzs : ∀ b o u,H b = some (.frz o u) → H' b = some (.frz o u)
  tbls : ∀ b ps,H b = some (.tbl ps) → ∃ more,H' b = some (.tbl (ps ++ more))
section
variable {fs fs' ex ex' : List Addr} {H H1 H2 : Hp} {h h1 h2 h' : Heap} {a x e : Addr} {o : HO}
theorem Un.any (u : Un fs ex H H1 h h1) {b : Addr} {ob : Obj} (q : h.get? b = some ob) (n : H b = none) (hx : b ∉ ex) : ∃ sl,h1.get? b = some { ob with slots := sl } := by
  by_cases hb : b ∈ fs
  · exact u.slot b ob q n hb hx
  · exact ⟨ob.slots,u.keep b ob q n hb hx⟩
theorem Un.kept (k : ∀ b u,h.get? b = some u → h'.get? b = some u) : Un fs ex H H h h' :=
  ⟨fun b ob q _ _ _ => k b ob q,fun b ob q _ _ _ => ⟨ob.slots,k b ob q⟩,fun _ _ _ n _ => n,fun b ob q _ => ⟨ob,k b ob q⟩,fun _ _ q => q,fun _ _ _ q => q,fun _ ps q => ⟨#[],by rw [q]; simp⟩⟩
theorem Un.refl : Un fs ex H H h h := Un.kept fun _ _ q => q
theorem Un.laid (k : ∀ b u,h.get? b = some u → h'.get? b = some u) (hp : h.objs.size ≤ a) (hn : H a = none) : Un fs ex H (upd H a o) h h' where
  keep := fun b u q _ _ _ => k b u q
  slot := fun b u q _ _ _ => ⟨u.slots,k b u q⟩
  free := fun b u q n _ => by rw [upd_ne (Nat.ne_of_lt (Nat.lt_of_lt_of_le (Heap.lt_size q) hp))]; exact n
  there := fun b u q _ => ⟨u,k b u q⟩
  tups := fun b xs q => by rw [upd_ne (ne_of_none q hn)]; exact q
  frzs := fun b u xs q => by rw [upd_ne (ne_of_none q hn)]; exact q
  tbls := fun b ps q => ⟨#[],by rw [upd_ne (ne_of_none q hn),q]; simp⟩
theorem Un.write (mu : Mut (H x)) (he : e = x ∨ H e = some (.own x)) (k : ∀ b u,b ≠ e → h.get? b = some u → h'.get? b = some u) (heo : ∃ u,h'.get? e = some u) : Un fs ex H (upd H x o) h h' := by
  have hx : ∀ b,H b = none → b ≠ x := fun b n z => by subst z; rw [n] at mu; exact mu
  have hb : ∀ b,H b = none → b ≠ e := fun b n z => by
    subst z
    rcases he with r | r
    · exact hx b n r
    · rw [n] at r; cases r
  have hm : ∀ b u,H b = some u → ¬ Mut (some u) → b ≠ x := fun b u q nm z => by subst z; rw [q] at mu; exact nm mu
  refine ⟨fun b u q n _ _ => k b u (hb b n) q,fun b u q n _ _ => ⟨u.slots,k b u (hb b n) q⟩,fun b u q n _ => by rw [upd_ne (hx b n)]; exact n,fun b u q _ => ?_,
    fun b xs q => by rw [upd_ne (hm b _ q fun z => z)]; exact q,fun b u xs q => by rw [upd_ne (hm b _ q fun z => z)]; exact q,fun b ps q => ⟨#[],by rw [upd_ne (hm b _ q fun z => z),q]; simp⟩⟩
  by_cases hbe : b = e
  · subst hbe; exact heo
  · exact ⟨u,k b u hbe q⟩
end
def trk (h : Heap) (H : Hp) : List Addr := (List.range h.objs.size).filter fun a => (H a).isSome
def hidT (h : Heap) (H : Hp) : Heap := PySem.W.hideAll h (trk h H)
theorem hidT_size (h : Heap) (H : Hp) : (hidT h H).objs.size = h.objs.size := PySem.W.hideAll_size _ _
theorem hidT_get {h : Heap} {H : Hp} {b : Addr} {o : Obj} (e : h.get? b = some o) (n : H b = none) : (hidT h H).get? b = some o :=
  PySem.W.hideAll_get _ e fun hm => by
    have q : (H b).isSome = true := (List.mem_filter.mp hm).2
    rw [n] at q; simp at q
theorem of_hidT {h : Heap} {H : Hp} {b : Addr} {o : Obj} (e : (hidT h H).get? b = some o) : h.get? b = some o ∧ H b = none := by
  have e' : h.get? b = some o := PySem.W.of_hideAll (trk h H) e
  refine ⟨e',?_⟩
  cases q : H b with
  | none => rfl
  | some x =>
    have hm : b ∈ trk h H := List.mem_filter.mpr ⟨List.mem_range.mpr (Heap.lt_size e'),by simp [q]⟩
    have z : (hidT h H).get? b = none := PySem.W.hideAll_none (trk h H) hm
    rw [z] at e; cases e
end L2
namespace L2
open PySem PySem.Spec PyProof.Rows
structure Mod (K : PySem.W.Frag) (mg : Str → Option Value) (base : Heap) : Prop where
  kin : K.In base
  glob : base.Ns mainGlobals mg
  blt : ∃ mb,base.Ns builtinsNs mb ∧ ∀ x : Str,x ≠ "__name__" → mb x = bootBuiltins x
  nolimit : base.NoLimit
structure Cx where
  prog : Program
  w : World
  K : PySem.W.Frag
  mg : Str → Option Value
  base : Heap
  A : Around
  N : List Str
  s₀ : Shared
  H₀ : Hp
  env : Env
  outer : List Env
  stack : List Env
  ex : List Addr
  fn : Str → Bool
  calm : Bool
  pn : List (Addr × Obj)
  xe : Value → Shared → Prop
def frs (l : List Env) : List Addr := l.filterMap (·.frame)
abbrev Cx.fs (X : Cx) : List Addr := frs X.outer
def Vis (sc : Scope) (x : Str) : Prop := sc.names.lookup x = some .local ∨ sc.names.lookup x = some .cell ∨ sc.names.lookup x = some .free
def Loc (sc : Scope) (x : Str) : Prop := sc.names.lookup x = some .local ∨ sc.names.lookup x = some .cell
def Look (env : Env) (h : Heap) (m : Str → Option Value) (x : Str) (u : Value) : Prop :=
  (env.kindOf x = some .local ∧ m x = some u) ∨ ((env.kindOf x = some .cell ∨ env.kindOf x = some .free) ∧ ∃ c,env.cells.lookup x = some c ∧ h.IsCell c (some u))
structure Cx.Ok (X : Cx) : Prop where
  mod : Mod X.K X.mg X.base
  kind : X.env.scope.kind = .function
  glob : X.env.globals = mainGlobals
  blt : X.env.builtins = builtinsNs
  above : X.s₀.heap.objs.size ≤ X.env.locals
  inj : ∀ x y c,X.env.cells.lookup x = some c → X.env.cells.lookup y = some c → x = y
  has : ∀ x,(X.env.kindOf x = some .cell ∨ X.env.kindOf x = some .free) → ∃ c,X.env.cells.lookup x = some c
  cab : ∀ x c,X.fn x = true → X.env.cells.lookup x = some c → X.s₀.heap.objs.size ≤ c
  hd : X.calm = true → X.A.handled = none
  frames : X.A.frames = some X.stack
  stk : X.stack = X.outer ∨ (X.stack = X.env :: X.outer ∧ X.env.frame = some X.env.locals)
  exf : ∀ b ∈ X.ex,b ≠ X.env.locals ∧ ∀ x c,X.env.cells.lookup x = some c → c ≠ b
  bs : ∀ b o,X.base.get? b = some o → X.s₀.heap.get? b = some o ∧ X.H₀ b = none
  bsz : X.base.objs.size ≤ X.s₀.heap.objs.size
  noex : ∀ b o,X.base.get? b = some o → b ∉ X.ex
  exfs : ∀ b ∈ X.ex,b ∉ X.fs
  funs : X.s₀.heap.FunFrames X.base X.outer
  frf : ∀ b ∈ X.fs,X.H₀ b = none
structure Inv (X : Cx) (pins : List (Addr × Obj)) (σ : List (Option V)) (H : Hp) (s : Shared) : Prop where
  ok : X.Ok
  os : s.os = X.s₀.os
  bare : AllBare s.gens
  base : Un X.fs X.ex X.H₀ H X.s₀.heap s.heap
  loc : ∃ m,s.heap.Ns X.env.locals m ∧ ∀ (i : Nat) (x : Str) (v : V),X.N[i]? = some x → σ[i]? = some (some v) → Vis X.env.scope x → ∃ u,RelV v u ∧ Look X.env s.heap m x u
  cell : ∀ x c,X.env.cells.lookup x = some c → ∃ v,s.heap.IsCell c v
  free : H X.env.locals = none
  freeC : ∀ x c,X.env.cells.lookup x = some c → H c = none
  pin : ∀ p ∈ X.pn ++ pins,s.heap.get? p.1 = some p.2 ∧ H p.1 = none ∧ p.1 ≠ X.env.locals ∧ p.1 ∉ X.fs ∧ ∀ v,p.2.data ≠ .cell v
  hok : HOk X.prog X.w H s.heap
  len : σ.length = X.N.length
section
variable {X : Cx} {pins : List (Addr × Obj)} {σ : List (Option V)} {H H' : Hp} {s : Shared} {h' : Heap}
theorem Cx.Ok.nofr (ok : X.Ok) {b : Addr} {o : Obj} (e : X.base.get? b = some o) : b ∉ X.fs := fun hb => by
  have := (ok.funs.mem hb).1
  rw [e] at this; cases this
theorem Inv.bs (I : Inv X pins σ H s) : ∀ b o,X.base.get? b = some o → s.heap.get? b = some o ∧ H b = none := fun b o e =>
  ⟨I.base.keep b o (I.ok.bs b o e).1 (I.ok.bs b o e).2 (I.ok.nofr e) (I.ok.noex b o e),I.base.free b o (I.ok.bs b o e).1 (I.ok.bs b o e).2 (I.ok.noex b o e)⟩
theorem Inv.bk (I : Inv X pins σ H s) : ∀ b o,X.base.get? b = some o → s.heap.get? b = some o := fun b o e => (I.bs b o e).1
theorem Inv.mod (I : Inv X pins σ H s) : Mod X.K X.mg X.base := I.ok.mod
theorem Inv.kIn (I : Inv X pins σ H s) : X.K.In s.heap := I.ok.mod.kin.keeps I.bk
theorem Inv.lt (I : Inv X pins σ H s) : X.env.locals < s.heap.objs.size := let ⟨_,hn,_⟩ := I.loc; hn.lt
theorem Inv.sz (I : Inv X pins σ H s) : X.s₀.heap.objs.size ≤ s.heap.objs.size := Nat.le_trans I.ok.above (Nat.le_of_lt I.lt)
theorem Inv.nofs (I : Inv X pins σ H s) {a : Addr} (h : s.heap.objs.size ≤ a) : a ∉ X.fs := fun hb => by
  obtain ⟨_,o,ho,_⟩ := I.ok.funs.mem hb
  exact absurd (Nat.lt_of_lt_of_le (Heap.lt_size ho) (Nat.le_trans I.sz h)) (Nat.lt_irrefl _)
theorem Inv.cne (I : Inv X pins σ H s) : ∀ x c,X.env.cells.lookup x = some c → c ≠ X.env.locals := fun x c e z => by
  obtain ⟨v,o,ho,hd⟩ := I.cell x c e
  obtain ⟨m,⟨o',es,ep,ho',hd',_⟩,_⟩ := I.loc
  rw [z,ho'] at ho; cases ho; rw [hd'] at hd; cases hd
theorem Inv.funs (I : Inv X pins σ H s) : s.heap.FunFrames X.base X.outer := by
  have all : ∀ (l : List Env),(∀ b ∈ frs l,b ∈ X.fs) → X.s₀.heap.FunFrames X.base l → s.heap.FunFrames X.base l := by
    intro l
    induction l with
    | nil => intro _ _; trivial
    | cons env r ih =>
      intro hs hl
      obtain ⟨hk,⟨L,o,hf,hn,ho,hd⟩,hr⟩ := hl
      have hL : L ∈ X.fs := hs L (by unfold frs; rw [List.filterMap_cons,hf]; exact List.mem_cons_self)
      obtain ⟨sl,e⟩ := I.base.slot L o ho (I.ok.frf L hL) hL fun z => I.ok.exfs L z hL
      exact ⟨hk,⟨L,_,hf,hn,e,hd⟩,ih (fun b hb => hs b (by unfold frs; rw [List.filterMap_cons,hf]; exact List.mem_cons_of_mem _ hb)) hr⟩
  exact all X.outer (fun _ hb => hb) I.ok.funs
theorem Inv.stack (I : Inv X pins σ H s) : s.heap.FunFrames X.base X.stack := by
  rcases I.ok.stk with e | ⟨e,hf⟩
  · rw [e]; exact I.funs
  · rw [e]
    obtain ⟨m,hn,_⟩ := I.loc
    refine .cons (by rw [I.ok.kind]; decide) hf hn ?_ I.funs
    exact Heap.get?_none_of_le (Nat.le_trans I.ok.bsz I.ok.above)
theorem Inv.stkSub (I : Inv X pins σ H s) : ∀ b ∈ frs X.stack,b ∈ X.env.locals :: X.fs := fun b hb => by
  rcases I.ok.stk with e | ⟨e,hf⟩
  · rw [e] at hb; exact List.mem_cons_of_mem _ hb
  · rw [e] at hb
    unfold frs at hb
    rw [List.filterMap_cons,hf] at hb
    exact hb
theorem Inv.stkFree (I : Inv X pins σ H s) : ∀ b ∈ frs X.stack,H b = none := fun b hb => by
  rcases List.mem_cons.mp (I.stkSub b hb) with e | hb
  · rw [e]; exact I.free
  · obtain ⟨_,o,ho,_⟩ := I.ok.funs.mem hb
    exact I.base.free b o ho (I.ok.frf b hb) fun z => I.ok.exfs b z hb
theorem Inv.step {g' : Array GenState} {t' : Nat} {d' : Drawn} {ch : List Addr} (I : Inv X pins σ H s)
    (hch : ∀ b ∈ ch,(b ∈ X.ex ∨ X.s₀.heap.objs.size ≤ b) ∧ b ≠ X.env.locals ∧ (∀ x c,X.env.cells.lookup x = some c → c ≠ b) ∧ ∀ p ∈ X.pn ++ pins,p.1 ≠ b)
    (keep : ∀ b o,b ≠ X.env.locals → b ∉ X.fs → b ∉ ch → s.heap.get? b = some o → H b = none → h'.get? b = some o)
    (slot : ∀ b o,b ≠ X.env.locals → b ∈ X.fs → b ∉ ch → s.heap.get? b = some o → H b = none → ∃ sl,h'.get? b = some { o with slots := sl }) (free : ∀ b o,b ∉ ch → s.heap.get? b = some o → H b = none → H' b = none)
    (there : ∀ b o,b ∉ ch → s.heap.get? b = some o → ∃ o',h'.get? b = some o')
    (tups : ∀ b xs,H b = some (.tup xs) → H' b = some (.tup xs)) (frzs : ∀ b o u,H b = some (.frz o u) → H' b = some (.frz o u)) (tbls : ∀ b ps,H b = some (.tbl ps) → ∃ more,H' b = some (.tbl (ps ++ more)))
    (ns : ∀ m,s.heap.Ns X.env.locals m → h'.Ns X.env.locals m) (hok : HOk X.prog X.w H' h') (hg : AllBare g') :
    Inv X pins σ H' { s with heap := h',gens := g',drawn := d',toks := t' } := by
  have neL : ∀ b o,X.s₀.heap.get? b = some o → b ≠ X.env.locals := fun b o e => Nat.ne_of_lt (Nat.lt_of_lt_of_le (Heap.lt_size e) I.ok.above)
  have neC : ∀ b o,X.s₀.heap.get? b = some o → b ∉ X.ex → b ∉ ch := fun b o e hx hb => by
    rcases (hch b hb).1 with z | z
    · exact hx z
    · exact absurd (Nat.lt_of_lt_of_le (Heap.lt_size e) z) (Nat.lt_irrefl _)
  have cellK : ∀ x c,X.env.cells.lookup x = some c → ∀ v,s.heap.IsCell c v → h'.IsCell c v := fun x c e v ⟨o,ho,hd⟩ => by
    have nch : c ∉ ch := fun z => (hch c z).2.2.1 x c e rfl
    by_cases hc : c ∈ X.fs
    · obtain ⟨sl,q⟩ := slot c o (I.cne x c e) hc nch ho (I.freeC x c e)
      exact ⟨_,q,hd⟩
    · exact ⟨o,keep c o (I.cne x c e) hc nch ho (I.freeC x c e),hd⟩
  refine ⟨I.ok,I.os,hg,⟨fun b o e n hb hx => ?_,fun b o e n hb hx => ?_,fun b o e n hx => ?_,fun b o e hx => ?_,fun b xs e => tups b xs (I.base.tups b xs e),fun b o xs e => frzs b o xs (I.base.frzs b o xs e),fun b ps e => ?_⟩,?_,fun x c e => ?_,?_,fun x c e => ?_,fun p hp => ?_,hok,I.len⟩
  · exact keep b o (neL b o e) hb (neC b o e hx) (I.base.keep b o e n hb hx) (I.base.free b o e n hx)
  · obtain ⟨sl,e1⟩ := I.base.slot b o e n hb hx
    obtain ⟨sl',e2⟩ := slot b _ (neL b o e) hb (neC b o e hx) e1 (I.base.free b o e n hx)
    exact ⟨sl',e2⟩
  · obtain ⟨o',e1⟩ := I.base.there b o e hx
    exact free b o' (neC b o e hx) e1 (I.base.free b o e n hx)
  · obtain ⟨o',e1⟩ := I.base.there b o e hx
    exact there b o' (neC b o e hx) e1
  · obtain ⟨m1,e1⟩ := I.base.tbls b ps e
    obtain ⟨m2,e2⟩ := tbls b _ e1
    exact ⟨m1 ++ m2,by rw [e2,Array.append_assoc]⟩
  · obtain ⟨m,hn,hl⟩ := I.loc
    refine ⟨m,ns m hn,fun i x v e1 e2 e3 => ?_⟩
    obtain ⟨u,r,l⟩ := hl i x v e1 e2 e3
    refine ⟨u,r,?_⟩
    rcases l with l | ⟨k,c,e,z⟩
    · exact .inl l
    · exact .inr ⟨k,c,e,cellK x c e _ z⟩
  · obtain ⟨v,z⟩ := I.cell x c e
    exact ⟨v,cellK x c e v z⟩
  · obtain ⟨m,⟨o,_,_,ho,_⟩,_⟩ := I.loc
    exact free _ o (fun z => (hch _ z).2.1 rfl) ho I.free
  · obtain ⟨v,o,ho,hd⟩ := I.cell x c e
    exact free c o (fun z => (hch c z).2.2.1 x c e rfl) ho (I.freeC x c e)
  · obtain ⟨e,n,ne,nf,d⟩ := I.pin p hp
    have nch : p.1 ∉ ch := fun z => (hch p.1 z).2.2.2 p hp rfl
    exact ⟨keep p.1 p.2 ne nf nch e n,free p.1 p.2 nch e n,ne,nf,d⟩
theorem Inv.un {t' : Nat} (I : Inv X pins σ H s) (u : Un X.fs [] H H' s.heap h') (hok : HOk X.prog X.w H' h') : Inv X pins σ H' { s with heap := h',toks := t' } := by
  obtain ⟨m,⟨o,es,ep,ho,r⟩,_⟩ := id I.loc
  obtain ⟨sl,hL⟩ := u.any ho I.free (by simp)
  exact I.step (g' := s.gens) (d' := s.drawn) (ch := []) (fun _ z => nomatch z) (fun b o _ hb _ e n => u.keep b o e n hb (by simp)) (fun b o _ hb _ e n => u.slot b o e n hb (by simp)) (fun b o _ e n => u.free b o e n (by simp)) (fun b o _ e => u.there b o e (by simp)) u.tups u.frzs u.tbls (fun m' hm => by
    obtain ⟨o',es',ep',ho',r'⟩ := hm
    rw [ho] at ho'; cases ho'
    exact ⟨_,es',ep',hL,r'⟩) hok I.bare
theorem Inv.call {g' : Array GenState} {t' : Nat} {d' : Drawn} {ch : List Addr} (I : Inv X pins σ H s) (u : Un (frs X.stack) ch H H' s.heap h') (hok : HOk X.prog X.w H' h') (hg : AllBare g')
    (hch : ∀ b ∈ ch,(b ∈ X.ex ∨ X.s₀.heap.objs.size ≤ b) ∧ b ≠ X.env.locals ∧ (∀ x c,X.env.cells.lookup x = some c → c ≠ b) ∧ ∀ p ∈ X.pn ++ pins,p.1 ≠ b) :
    Inv X pins σ H' { s with heap := h',gens := g',drawn := d',toks := t' } := by
  obtain ⟨m,⟨o,es,ep,ho,r⟩,_⟩ := id I.loc
  obtain ⟨sl,hL⟩ := u.any ho I.free fun z => (hch _ z).2.1 rfl
  exact I.step (ch := ch) hch (fun b o hL hb hc e n => u.keep b o e n (fun z => (List.mem_cons.mp (I.stkSub b z)).elim hL hb) hc) (fun b o _ _ hc e n => u.any e n hc) (fun b o hc e n => u.free b o e n hc) (fun b o hc e => u.there b o e hc) u.tups u.frzs u.tbls (fun m' hm => by
    obtain ⟨o',es',ep',ho',r'⟩ := hm
    rw [ho] at ho'; cases ho'
    exact ⟨_,es',ep',hL,r'⟩) hok hg
theorem Inv.turned {t' : Nat} {it : Addr} (I : Inv X pins σ H s) (k : ∀ b o,b ≠ it → s.heap.get? b = some o → h'.get? b = some o) (hn : H it = none) (hL : it ≠ X.env.locals)
    (h1 : it ∈ X.ex ∨ X.s₀.heap.objs.size ≤ it) (h2 : ∀ x c,X.env.cells.lookup x = some c → c ≠ it) (h3 : ∀ p ∈ X.pn ++ pins,p.1 ≠ it) : Inv X pins σ H { s with heap := h',toks := t' } := by
  have nit : ∀ b u,H b = some u → b ≠ it := fun b u e z => by rw [z,hn] at e; cases e
  refine I.step (g' := s.gens) (d' := s.drawn) (ch := [it]) (fun b hb => ?_) (fun b o _ _ hc e _ => k b o (fun z => hc (by simp [z])) e) (fun b o _ _ hc e _ => ⟨o.slots,k b o (fun z => hc (by simp [z])) e⟩) (fun _ _ _ _ n => n)
    (fun b o hc e => ⟨o,k b o (fun z => hc (by simp [z])) e⟩) (fun _ _ e => e) (fun _ _ _ e => e) (fun b ps e => ⟨#[],by rw [e]; simp⟩) (fun m hm => ?_) (fun b u e => ?_) I.bare
  · have e : b = it := by simpa using hb
    subst e
    exact ⟨h1,hL,h2,h3⟩
  · obtain ⟨o,es,ep,ho,r⟩ := hm
    exact ⟨o,es,ep,k _ o (Ne.symm hL) ho,r⟩
  · refine (I.hok b u e).stay (fun c v hc q => k c v ?_ q) (fun _ q => q) fun _ _ q => q
    rcases hc with z | z
    · rw [z]; exact nit b u e
    · exact nit c _ z
theorem Inv.tok (I : Inv X pins σ H s) (t : Nat) : Inv X pins σ H { s with toks := t } := I.un (h' := s.heap) (t' := t) Un.refl I.hok
theorem Inv.kept {t' : Nat} (I : Inv X pins σ H s) (k : ∀ b u,s.heap.get? b = some u → h'.get? b = some u) : Inv X pins σ H { s with heap := h',toks := t' } := I.un (Un.kept k) (I.hok.kept k)
theorem Inv.laid {a : Addr} {o : HO} {t' : Nat} (I : Inv X pins σ H s) (k : ∀ b u,s.heap.get? b = some u → h'.get? b = some u) (hp : s.heap.objs.size ≤ a) (new : ObjOk X.prog X.w (upd H a o) h' a o) :
    Inv X pins σ (upd H a o) { s with heap := h',toks := t' } := I.un (Un.laid k hp (I.hok.fresh hp)) (I.hok.laid k hp new)
theorem Inv.write {x e : Addr} {o : HO} {t' : Nat} (I : Inv X pins σ H s) (mu : Mut (H x)) (he : e = x ∨ H e = some (.own x)) (k : ∀ b u,b ≠ e → s.heap.get? b = some u → h'.get? b = some u) (heo : ∃ u,h'.get? e = some u)
    (new : ObjOk X.prog X.w (upd H x o) h' x o) : Inv X pins σ (upd H x o) { s with heap := h',toks := t' } := I.un (Un.write mu he k heo) (I.hok.write mu he k heo new)
theorem Inv.pins_of {pins' : List (Addr × Obj)} (I : Inv X pins σ H s) (h : ∀ p ∈ pins',s.heap.get? p.1 = some p.2 ∧ H p.1 = none ∧ p.1 ≠ X.env.locals ∧ p.1 ∉ X.fs ∧ ∀ v,p.2.data ≠ .cell v) : Inv X pins' σ H s :=
  ⟨I.ok,I.os,I.bare,I.base,I.loc,I.cell,I.free,I.freeC,fun p hp => (List.mem_append.mp hp).elim (fun z => I.pin p (List.mem_append_left _ z)) (h p),I.hok,I.len⟩
theorem nodup_ix {N : List Str} (hN : N.Nodup) {i j : Nat} {x : Str} (a : N[i]? = some x) (b : N[j]? = some x) : i = j := by
  obtain ⟨h1,e1⟩ := List.getElem?_eq_some_iff.mp a
  obtain ⟨h2,e2⟩ := List.getElem?_eq_some_iff.mp b
  exact (List.getElem_inj hN).mp (e1.trans e2.symm)
theorem store_ok2 {M : Model} {A : Around} {E : Value → Shared → Prop} {i : Nat} {x : Str} {v : V} {u : Value} {Q : Unit → Shared → Prop} (I : Inv X pins σ H s) (hN : X.N.Nodup) (hi : X.N[i]? = some x) (hx : Loc X.env.scope x) (r : RelV v u)
    (h : ∀ s',Inv X pins (σ.set i (some v)) H s' → (∃ a,Heap.SameBut a s.heap s'.heap ∧ (a = X.env.locals ∨ X.env.cells.lookup x = some a)) → Q () s') (hf : X.fn x = true ∨ X.env.scope.names.lookup x = some .local := by first | exact .inl rfl | exact .inr rfl | assumption) : wpAny M A (storeName X.env x u) Q E s := by
  obtain ⟨m,hn,hl⟩ := id I.loc
  have hcls : (X.env.scope.kind == .class || (X.env.scope.kind == .module && X.env.locals != X.env.globals)) = false := by rw [I.ok.kind]; rfl
  have hiσ : i < σ.length := by rw [I.len]; exact (List.getElem?_eq_some_iff.mp hi).1
  have cne := I.cne
  have tracked : ∀ {a : Addr} {h' : Heap},(∃ o,s.heap.get? a = some o ∧ H a = none) → Heap.SameBut a s.heap h' → HOk X.prog X.w H h' := fun {a h'} ha hs b ob e => by
    obtain ⟨_,_,hfree⟩ := ha
    refine (I.hok b ob e).stay (fun c w' hc q => (hs.2 c ?_).trans q) (fun _ q => q) fun _ _ q => q
    rintro rfl
    rcases hc with rfl | hc
    · rw [hfree] at e; cases e
    · rw [hfree] at hc; cases hc
  rcases hx with hk | hk
  · refine wpAny_storeName_local hk hn (fun h' hn' hs => ?_) hcls
    obtain ⟨oL,_,_,hoL,_⟩ := id hn
    refine h _ ⟨I.ok,I.os,I.bare,⟨fun b o e n hb hx => ?_,fun b o e n hb hx => ?_,I.base.free,fun b o e hx => ?_,I.base.tups,I.base.frzs,I.base.tbls⟩,⟨_,hn',fun j y v' e1 e2 e3 => ?_⟩,fun y c e => ?_,I.free,I.freeC,fun p hp => ?_,tracked ⟨oL,hoL,I.free⟩ hs,by simpa using I.len⟩ ⟨_,hs,.inl rfl⟩
    · exact (hs.2 b (Nat.ne_of_lt (Nat.lt_of_lt_of_le (Heap.lt_size e) I.ok.above))).trans (I.base.keep b o e n hb hx)
    · obtain ⟨sl,e1⟩ := I.base.slot b o e n hb hx
      exact ⟨sl,(hs.2 b (Nat.ne_of_lt (Nat.lt_of_lt_of_le (Heap.lt_size e) I.ok.above))).trans e1⟩
    · obtain ⟨o',e1⟩ := I.base.there b o e hx
      exact ⟨o',(hs.2 b (Nat.ne_of_lt (Nat.lt_of_lt_of_le (Heap.lt_size e) I.ok.above))).trans e1⟩
    · by_cases hj : j = i
      · subst hj
        rw [hi] at e1; cases e1
        rw [List.getElem?_set_self hiσ] at e2
        cases e2
        exact ⟨u,r,.inl ⟨hk,by simp⟩⟩
      · rw [List.getElem?_set_ne (Ne.symm hj)] at e2
        obtain ⟨u',r',q⟩ := hl j y v' e1 e2 e3
        refine ⟨u',r',?_⟩
        rcases q with ⟨k,e⟩ | ⟨k,c,e,z⟩
        · refine .inl ⟨k,?_⟩
          have : y ≠ x := fun e => hj (nodup_ix hN e1 (e ▸ hi))
          simp [this,e]
        · exact .inr ⟨k,c,e,z.sameBut hs (cne y c e)⟩
    · obtain ⟨w',z⟩ := I.cell y c e
      exact ⟨w',z.sameBut hs (cne y c e)⟩
    · obtain ⟨e,n,ne,nf,d⟩ := I.pin p hp
      exact ⟨(hs.2 p.1 ne).trans e,n,ne,nf,d⟩
  · have hfn : X.fn x = true := by
      rcases hf with z | z
      · exact z
      · rw [z] at hk; cases hk
    obtain ⟨c,hc⟩ := I.ok.has x (.inl hk)
    obtain ⟨w',z⟩ := I.cell x c hc
    refine wpAny_storeName_cell I.ok.kind hk hc z (fun h' hc' hs => ?_)
    obtain ⟨oc,hoc,hocd⟩ := id z
    refine h { s with heap := h' } ⟨I.ok,I.os,I.bare,⟨fun b o e n hb hx => ?_,fun b o e n hb hx => ?_,I.base.free,fun b o e hx => ?_,I.base.tups,I.base.frzs,I.base.tbls⟩,⟨m,hn.sameBut hs (Ne.symm (cne x c hc)),fun j y v' e1 e2 e3 => ?_⟩,fun y c' e => ?_,I.free,I.freeC,fun p hp => ?_,tracked ⟨oc,hoc,I.freeC x c hc⟩ hs,by simpa using I.len⟩ ⟨c,hs,.inr hc⟩
    · exact (hs.2 b (Nat.ne_of_lt (Nat.lt_of_lt_of_le (Heap.lt_size e) (I.ok.cab x c hfn hc)))).trans (I.base.keep b o e n hb hx)
    · obtain ⟨sl,e1⟩ := I.base.slot b o e n hb hx
      exact ⟨sl,(hs.2 b (Nat.ne_of_lt (Nat.lt_of_lt_of_le (Heap.lt_size e) (I.ok.cab x c hfn hc)))).trans e1⟩
    · obtain ⟨o',e1⟩ := I.base.there b o e hx
      exact ⟨o',(hs.2 b (Nat.ne_of_lt (Nat.lt_of_lt_of_le (Heap.lt_size e) (I.ok.cab x c hfn hc)))).trans e1⟩
    · by_cases hj : j = i
      · subst hj
        rw [hi] at e1; cases e1
        rw [List.getElem?_set_self hiσ] at e2
        cases e2
        exact ⟨u,r,.inr ⟨.inl hk,c,hc,hc'⟩⟩
      · rw [List.getElem?_set_ne (Ne.symm hj)] at e2
        obtain ⟨u',r',q⟩ := hl j y v' e1 e2 e3
        refine ⟨u',r',?_⟩
        rcases q with q | ⟨k,c',e,z'⟩
        · exact .inl q
        · refine .inr ⟨k,c',e,z'.sameBut hs ?_⟩
          rintro rfl
          exact hj (nodup_ix hN e1 (I.ok.inj _ _ _ e hc ▸ hi))
    · by_cases hcc : c' = c
      · subst hcc; exact ⟨_,hc'⟩
      · obtain ⟨w2,z2⟩ := I.cell y c' e
        exact ⟨w2,z2.sameBut hs hcc⟩
    · obtain ⟨e,n,ne,nf,d⟩ := I.pin p hp
      refine ⟨(hs.2 p.1 ?_).trans e,n,ne,nf,d⟩
      intro q
      rw [q,hoc] at e
      have q' : oc = p.2 := Option.some.inj e
      exact d w' (by rw [← q']; exact hocd)
theorem store_ok {M : Model} {A : Around} {E : Value → Shared → Prop} {i : Nat} {x : Str} {v : V} {u : Value} {Q : Unit → Shared → Prop} (I : Inv X pins σ H s) (hN : X.N.Nodup) (hi : X.N[i]? = some x) (hx : Loc X.env.scope x) (r : RelV v u)
    (h : ∀ s',Inv X pins (σ.set i (some v)) H s' → Q () s') (hf : X.fn x = true ∨ X.env.scope.names.lookup x = some .local := by first | exact .inl rfl | exact .inr rfl | assumption) : wpAny M A (storeName X.env x u) Q E s :=
  store_ok2 I hN hi hx r (fun s' I' _ => h s' I') hf
theorem Inv.call' {s' : Shared} {ch : List Addr} (I : Inv X pins σ H s) (ho : s'.os = s.os) (u : Un (frs X.stack) ch H H' s.heap s'.heap) (hok : HOk X.prog X.w H' s'.heap) (hg : AllBare s'.gens)
    (hch : ∀ b ∈ ch,(b ∈ X.ex ∨ X.s₀.heap.objs.size ≤ b) ∧ b ≠ X.env.locals ∧ (∀ x c,X.env.cells.lookup x = some c → c ≠ b) ∧ ∀ p ∈ X.pn ++ pins,p.1 ≠ b) : Inv X pins σ H' s' := by
  obtain ⟨h',g',d',t',o'⟩ := s'
  have e : o' = s.os := ho
  subst e
  exact I.call (g' := g') (t' := t') (d' := d') u hok hg hch
end
abbrev XK := Value → Option Addr → Hp → Prop
abbrev St := List (Option V)
abbrev VK := V → Hp → Prop
abbrev TE := St → Hp → VK → Prop
abbrev TT := St → Hp → (Bool → Hp → Prop) → Prop
abbrev TA := St → Hp → (List V → Hp → Prop) → Prop
structure Ends where
  nx : St → Hp → Prop
  rt : VK
  bk : St → Hp → Prop := fun _ _ => False
  ct : St → Hp → Prop := fun _ _ => False
abbrev TS := Ends → St → Hp → Prop
def EP (X : Cx) (pins : List (Addr × Obj)) (σ : St) (Q : VK) (u : Value) (s' : Shared) : Prop := ∃ v H',Inv X pins σ H' s' ∧ RelV v u ∧ Q v H'
def TP (X : Cx) (pins : List (Addr × Obj)) (σ : St) (Q : Bool → Hp → Prop) (b : Bool) (s' : Shared) : Prop := ∃ H',Inv X pins σ H' s' ∧ Q b H'
def AP (X : Cx) (pins : List (Addr × Obj)) (σ : St) (Q : List V → Hp → Prop) (us : List Value) (s' : Shared) : Prop := ∃ vs H',Inv X pins σ H' s' ∧ Vals vs us ∧ Q vs H'
def SP (X : Cx) (pins : List (Addr × Obj)) (D : Ends) (f : Flow) (s' : Shared) : Prop :=
  match f with
  | .next => ∃ σ' H',Inv X pins σ' H' s' ∧ D.nx σ' H'
  | .brk => ∃ σ' H',Inv X pins σ' H' s' ∧ D.bk σ' H'
  | .cont => ∃ σ' H',Inv X pins σ' H' s' ∧ D.ct σ' H'
  | .ret u => ∃ v σ' H',Inv X pins σ' H' s' ∧ RelV v u ∧ D.rt v H'
def PE (X : Cx) (e : Expr) (t : TE) : Prop :=
  ∀ (pins : List (Addr × Obj)) (s : Shared) (σ : St) (H : Hp) (Q : VK),Inv X pins σ H s → t σ H Q → wpAny (model X.prog X.w) X.A (eval e X.env) (EP X pins σ Q) X.xe s
def PT (X : Cx) (e : Expr) (t : TT) : Prop :=
  ∀ (pins : List (Addr × Obj)) (s : Shared) (σ : St) (H : Hp) (Q : Bool → Hp → Prop),Inv X pins σ H s → t σ H Q → wpAny (model X.prog X.w) X.A (isTrue e X.env (eval e X.env)) (TP X pins σ Q) X.xe s
def PW (X : Cx) (e : Expr) (t : TT) : Prop :=
  ∀ (whole : Sem Value) (pins : List (Addr × Obj)) (s : Shared) (σ : St) (H : Hp) (Q : Bool → Hp → Prop),Inv X pins σ H s → t σ H Q → wpAny (model X.prog X.w) X.A (isTrue e X.env whole) (TP X pins σ Q) X.xe s
theorem PW.pt {X : Cx} {e : Expr} {t : TT} (h : PW X e t) : PT X e t := h _
def PA (X : Cx) (es : List Expr) (t : TA) : Prop :=
  ∀ (pos : Pos) (pins : List (Addr × Obj)) (s : Shared) (σ : St) (H : Hp) (Q : List V → Hp → Prop),Inv X pins σ H s → t σ H Q → wpAny (model X.prog X.w) X.A (spliced (backTo pos (starEach es X.env))) (AP X pins σ Q) X.xe s
def PS (X : Cx) (st : Stmt) (t : TS) : Prop :=
  ∀ (pins : List (Addr × Obj)) (s : Shared) (σ : St) (H : Hp) (D : Ends),Inv X pins σ H s → t D σ H → wpAny (model X.prog X.w) X.A (exec st X.env) (SP X pins D) X.xe s
def PSs (X : Cx) (st : List Stmt) (t : TS) : Prop :=
  ∀ (pins : List (Addr × Obj)) (s : Shared) (σ : St) (H : Hp) (D : Ends),Inv X pins σ H s → t D σ H → wpAny (model X.prog X.w) X.A (execs st X.env) (SP X pins D) X.xe s
theorem thn {α : Type} {t : Sem α} {Q Q' : α → Shared → Prop} {M : Model} {A : Around} {E : Value → Shared → Prop} {s : Shared} (h : wpAny M A t Q E s) (hQ : ∀ a s,Q a s → Q' a s) : wpAny M A t Q' E s := wpAny_mono h hQ fun _ _ x => x
end L2
namespace L2
open PySem PySem.Spec PyProof.Rows
section
variable {X : Cx}
def tVar (i : Nat) : TE := fun σ H Q => ∃ v,σ[i]? = some (some v) ∧ Q v H
def tC (v : V) : TE := fun _ H Q => Q v H
theorem pe_var {i : Nat} {x : Str} {pos : Pos} (hN : X.N[i]? = some x) (hv : Vis X.env.scope x) (hd : (x == ("__debug__" : Str)) = false := by decide) (hcd : (x == ("__classdict__" : Str)) = false := by decide) : PE X (.Name x pos) (tVar i) := by
  intro pins s σ H Q I h
  obtain ⟨v,e,h⟩ := h
  obtain ⟨m,hn,hl⟩ := I.loc
  obtain ⟨u,r,l⟩ := hl i x v hN e hv
  have fin : EP X pins σ Q u s := ⟨v,H,I,r,h⟩
  rcases l with ⟨hk,hm⟩ | ⟨hk,c,hc,hcell⟩
  · exact wpAny_Name (wpAny_loadName_local I.ok.kind hk hn hm fin) hd
  · rcases hk with hk | hk
    · exact wpAny_Name (wpAny_loadName_cell I.ok.kind hk hc hcell fin) hd
    · exact wpAny_Name (wpAny_loadName_free I.ok.kind hk hc hcell fin hcd) hd
theorem pe_int {i j pos} : PE X (.Constant (.int i) j pos) (tC (.int i)) := fun _ _ _ H _ I h => wpAny_Constant_int ⟨.int i,H,I.tok _,⟨_,rfl⟩,h⟩
theorem pe_bl {b j pos} : PE X (.Constant (.bool b) j pos) (tC (.bl b)) := fun _ _ _ H _ I h => Constant_bool ⟨.bl b,H,I,rfl,h⟩
theorem pe_non {j pos} : PE X (.Constant .none j pos) (tC .non) := fun _ _ _ H _ I h => Constant_none ⟨.non,H,I,rfl,h⟩
theorem pe_str {x j pos} : PE X (.Constant (.str x) j pos) (tC (.str x)) := fun _ _ _ H _ I h => Calls.Constant_str ⟨.str x,H,I.tok _,⟨_,rfl⟩,h⟩
def Gl (X : Cx) (x : Str) : Prop := X.env.kindOf x = some .globalImplicit
theorem ld_glob {E : Value → Shared → Prop} {pins : List (Addr × Obj)} {s : Shared} {σ : St} {H : Hp} {x : Str} {u : Value} {pos : Pos} {Q : Value → Shared → Prop} (I : Inv X pins σ H s) (hg : Gl X x) (hm : X.mg x = some u) (h : Q u s)
    (hd : (x == ("__debug__" : Str)) = false := by decide) : wpAny (model X.prog X.w) X.A (eval (.Name x pos) X.env) Q E s :=
  Calls.Name_function_global I.ok.kind hg (Calls.loadGlobal_global (by rw [I.ok.glob]; exact I.mod.glob.keeps I.bk) hm h) hd
theorem ld_blt {E : Value → Shared → Prop} {pins : List (Addr × Obj)} {s : Shared} {σ : St} {H : Hp} {x : Str} {u : Value} {pos : Pos} {Q : Value → Shared → Prop} (I : Inv X pins σ H s) (hg : Gl X x) (hm : X.mg x = none) (hv : bootBuiltins x = some u) (h : Q u s)
    (hn : x ≠ "__name__" := by decide) (hd : (x == ("__debug__" : Str)) = false := by decide) : wpAny (model X.prog X.w) X.A (eval (.Name x pos) X.env) Q E s := by
  obtain ⟨mb,h1,h2⟩ := I.mod.blt
  exact Calls.Name_function_global I.ok.kind hg (Calls.loadGlobal_builtin (by rw [I.ok.glob]; exact I.mod.glob.keeps I.bk) hm (by rw [I.ok.blt]; exact h1.keeps I.bk) ((h2 x hn).trans hv) h) hd
theorem pe_glob {x : Str} {v : V} {u : Value} {pos : Pos} (hg : Gl X x) (hm : X.mg x = some u) (r : RelV v u) (hd : (x == ("__debug__" : Str)) = false := by decide) : PE X (.Name x pos) (tC v) :=
  fun _ _ _ H _ I h => ld_glob I hg hm ⟨v,H,I,r,h⟩ hd
theorem pe_bltn {x : Str} {v : V} {u : Value} {pos : Pos} (hg : Gl X x) (hm : X.mg x = none) (hv : bootBuiltins x = some u) (r : RelV v u) (hn : x ≠ "__name__" := by decide) (hd : (x == ("__debug__" : Str)) = false := by decide) : PE X (.Name x pos) (tC v) :=
  fun _ _ _ H _ I h => ld_blt I hg hm hv ⟨v,H,I,r,h⟩ hn hd
variable {a b : Expr} {ta tb : TE} {pos : Pos}
def tB (t : TE) : TT := fun σ H Q => t σ H fun x H1 => ∃ c,x = .bl c ∧ Q c H1
theorem pt_val {e : Expr} {t : TE} (h : PE X e t) (he : ∀ whole,isTrue e X.env whole = (do let v ← whole; standAt e.pos; holding [v] (truthy v)) := by intro _; rfl) : PT X e (tB t) := by
  intro pins s σ H Q I hw
  refine isTrue_plain (thn (h pins s σ H _ I hw) fun v s1 ⟨x,H1,I1,r1,q1⟩ => ?_) (he _)
  obtain ⟨d,rfl,q⟩ := q1
  cases r1
  exact wpAny_truthy_bool ⟨H1,I1,q⟩
variable {tA tB' : TT} {rest : List Expr}
def tAnd (t u : TT) : TT := fun σ H Q => t σ H fun c H1 => if c = true then u σ H1 Q else Q false H1
def tOr (t u : TT) : TT := fun σ H Q => t σ H fun c H1 => if c = true then Q true H1 else u σ H1 Q
def tNot (t : TT) : TT := fun σ H Q => t σ H fun c H1 => Q (!c) H1
theorem pw_and1 (ha : PT X a tA) : PW X (.BoolOp .And [a] pos) tA := by
  intro wh pins s σ H Q I h
  refine isTrue_and (thn (ha pins s σ H Q I h) fun c s1 e => ?_)
  cases c with
  | true => exact isTrue_and_nil e
  | false => exact e
theorem pw_or1 (ha : PT X a tA) : PW X (.BoolOp .Or [a] pos) tA := by
  intro wh pins s σ H Q I h
  refine isTrue_or (thn (ha pins s σ H Q I h) fun c s1 e => ?_)
  cases c with
  | false => exact isTrue_or_nil e
  | true => exact e
theorem pw_and (ha : PT X a tA) (hb : PW X (.BoolOp .And (b :: rest) pos) tB') : PW X (.BoolOp .And (a :: b :: rest) pos) (tAnd tA tB') := by
  intro wh pins s σ H Q I h
  refine isTrue_and (thn (ha pins s σ H _ I h) fun c s1 ⟨H1,I1,q1⟩ => ?_)
  cases c with
  | true => exact hb wh pins s1 σ H1 Q I1 q1
  | false => exact ⟨H1,I1,q1⟩
theorem pw_or (ha : PT X a tA) (hb : PW X (.BoolOp .Or (b :: rest) pos) tB') : PW X (.BoolOp .Or (a :: b :: rest) pos) (tOr tA tB') := by
  intro wh pins s σ H Q I h
  refine isTrue_or (thn (ha pins s σ H _ I h) fun c s1 ⟨H1,I1,q1⟩ => ?_)
  cases c with
  | true => exact ⟨H1,I1,q1⟩
  | false => exact hb wh pins s1 σ H1 Q I1 q1
theorem pt_not (ha : PT X a tA) : PT X (.UnaryOp .Not a pos) (tNot tA) := by
  intro pins s σ H Q I h
  exact isTrue_not (ha pins s σ H (fun c H1 => Q (!c) H1) I h)
def tAndV (ta tb : TE) : TE := fun σ H Q => ta σ H fun x H1 => ∃ c,x = .bl c ∧ if c = true then tb σ H1 Q else Q (.bl false) H1
def tNotV (ta : TE) : TE := fun σ H Q => ta σ H fun x H1 => ∃ c,x = .bl c ∧ Q (.bl (!c)) H1
theorem pe_one {op} {t : TE} (h : PE X a t) : PE X (.BoolOp op [a] pos) t := fun pins s σ H Q I hw => BoolOp_one (h pins s σ H Q I hw)
theorem pe_and (ha : PE X a ta) (hb : PE X (.BoolOp .And (b :: rest) pos) tb) : PE X (.BoolOp .And (a :: b :: rest) pos) (tAndV ta tb) := by
  intro pins s σ H Q I h
  refine BoolOp_and (thn (ha pins s σ H _ I h) fun v s1 ⟨x,H1,I1,r1,q1⟩ => ?_)
  obtain ⟨c,rfl,q1⟩ := q1
  cases r1
  refine wpAny_truthy_bool ?_
  cases c with
  | true => exact hb pins s1 σ H1 Q I1 q1
  | false => exact ⟨.bl false,H1,I1,rfl,q1⟩
theorem pe_not (ha : PE X a ta) : PE X (.UnaryOp .Not a pos) (tNotV ta) := by
  intro pins s σ H Q I h
  refine UnaryOp_ (thn (ha pins s σ H _ I h) fun v s1 ⟨x,H1,I1,r1,q1⟩ => ?_)
  obtain ⟨c,rfl,q1⟩ := q1
  cases r1
  exact not_of (wpAny_truthy_bool ⟨.bl (!c),H1,I1,rfl,q1⟩)
def tIf (t : TT) (ta tb : TE) : TE := fun σ H Q => t σ H fun c H1 => if c = true then ta σ H1 Q else tb σ H1 Q
theorem pe_ifExp {c : Expr} (hc : PT X c tA) (ha : PE X a ta) (hb : PE X b tb) : PE X (.IfExp c a b pos) (tIf tA ta tb) := by
  intro pins s σ H Q I h
  refine wpAny_IfExp (thn (hc pins s σ H _ I h) fun d s1 ⟨H1,I1,q1⟩ => ?_)
  cases d with
  | true => exact ha pins s1 σ H1 Q I1 q1
  | false => exact hb pins s1 σ H1 Q I1 q1
end
end L2
namespace L2
open PySem PySem.Spec PyProof.Rows
def SqL (K : PySem.W.Frag) (H : Hp) (a : Addr) (xs : List V) : Prop :=
  Rd H a (.lst xs) ∨
    ∃ (o : Obj) (its : Array Value) (n : Nat),K.lookup a = some o ∧ o.cls = .type "list" ∧ o.dict = none ∧ o.data = .seq its n ∧ its.size ≤ sizeLine ∧ Vals xs its.toList
def SqT (K : PySem.W.Frag) (H : Hp) (a : Addr) (xs : List V) : Prop :=
  Rd H a (.tup xs) ∨
    ∃ (o : Obj) (its : Array Value) (n : Nat),K.lookup a = some o ∧ o.cls = .type "tuple" ∧ o.data = .seq its n ∧ its.size ≤ sizeLine ∧ Vals xs its.toList
def absV : Value → Option V
  | .none => some .non
  | .bool b => some (.bl b)
  | .int i _ => some (.int i)
  | .str x _ => some (.str x)
  | .bytes b _ => some (.byt b)
  | .float b _ => some (.flt b)
  | .ref a => some (.ref a)
  | .type n => some (.ty n)
  | _ => none
theorem RelV.abs {x : V} {u : Value} (r : RelV x u) : absV u = some x := by
  cases x with
  | non => cases r; rfl
  | bl _ => cases r; rfl
  | int _ => obtain ⟨t,rfl⟩ := r; rfl
  | str _ => obtain ⟨t,rfl⟩ := r; rfl
  | byt _ => obtain ⟨t,rfl⟩ := r; rfl
  | flt _ => obtain ⟨t,rfl⟩ := r; rfl
  | ref _ => cases r; rfl
  | ty _ => cases r; rfl
theorem RelV.inj {x y : V} {u : Value} (r : RelV x u) (q : RelV y u) : x = y := Option.some.inj (r.abs.symm.trans q.abs)
theorem Vals.inj : ∀ {xs ys : List V} {us : List Value},Vals xs us → Vals ys us → xs = ys
  | _,_,_,.nil,.nil => rfl
  | _,_,_,.cons r t,.cons r' t' => by rw [r.inj r',Vals.inj t t']
section
variable {X : Cx} {pins : List (Addr × Obj)} {σ : St} {H : Hp} {s : Shared} {a : Addr} {xs ys : List V}
theorem SqL.of {K : PySem.W.Frag} (h : H a = some (.lst xs)) : SqL K H a xs := .inl (.inl h)
theorem SqT.of {K : PySem.W.Frag} (h : H a = some (.tup xs)) : SqT K H a xs := .inl (.inl h)
theorem Inv.list (I : Inv X pins σ H s) (h : SqL X.K H a xs) : ∃ its : List Value,Vals xs its ∧ PlainL s.heap a its.toArray ∧ xs.length ≤ sizeLine := by
  rcases h with h | ⟨o,its,n,hk,hc,hd,hs,hz,r⟩
  · obtain ⟨z,its,n,r,e⟩ := h.ok I.hok
    exact ⟨its,r,⟨_,n,e,rfl,rfl,rfl⟩,z⟩
  · refine ⟨its.toList,r,⟨o,n,I.kIn a o hk,hc,hd,by simpa using hs⟩,?_⟩
    have e := r.length
    simp only [Array.length_toList] at e
    omega
theorem Inv.tuple (I : Inv X pins σ H s) (h : SqT X.K H a xs) : ∃ its : List Value,Vals xs its ∧ IsTup s.heap a its.toArray ∧ xs.length ≤ sizeLine := by
  rcases h with h | ⟨o,its,n,hk,hc,hs,hz,r⟩
  · obtain ⟨z,its,r,p⟩ := h.ok I.hok
    exact ⟨its,r,p,z⟩
  · refine ⟨its.toList,r,⟨o,I.kIn a o hk,hc,n,by simpa using hs⟩,?_⟩
    have e := r.length
    simp only [Array.length_toList] at e
    omega
theorem Inv.list_inj (I : Inv X pins σ H s) (h : SqL X.K H a xs) (h' : SqL X.K H a ys) : xs = ys := by
  obtain ⟨its,r,⟨o,n,e,_,_,d⟩,_⟩ := I.list h
  obtain ⟨its',r',⟨o',n',e',_,_,d'⟩,_⟩ := I.list h'
  rw [e] at e'; cases e'
  rw [d] at d'
  injection d' with d1 _
  have : its = its' := by simpa using congrArg Array.toList d1
  subst this
  exact r.inj r'
end
abbrev Cx.wish (X : Cx) (E : Value → Shared → Prop) : Cx := { X with xe := E }
abbrev Cx.nox (X : Cx) : Cx := X.wish fun _ _ => False
theorem Cx.Ok.wish {X : Cx} (ok : X.Ok) (E : Value → Shared → Prop) : (X.wish E).Ok :=
  ⟨ok.mod,ok.kind,ok.glob,ok.blt,ok.above,ok.inj,ok.has,ok.cab,ok.hd,ok.frames,ok.stk,ok.exf,ok.bs,ok.bsz,ok.noex,ok.exfs,ok.funs,ok.frf⟩
theorem Cx.Ok.unwish {X : Cx} {E : Value → Shared → Prop} (ok : (X.wish E).Ok) : X.Ok :=
  ⟨ok.mod,ok.kind,ok.glob,ok.blt,ok.above,ok.inj,ok.has,ok.cab,ok.hd,ok.frames,ok.stk,ok.exf,ok.bs,ok.bsz,ok.noex,ok.exfs,ok.funs,ok.frf⟩
section
variable {X : Cx} {pins : List (Addr × Obj)} {σ : St} {H : Hp} {s : Shared} {E : Value → Shared → Prop}
theorem Inv.wish (I : Inv X pins σ H s) (E : Value → Shared → Prop) : Inv (X.wish E) pins σ H s := ⟨I.ok.wish E,I.os,I.bare,I.base,I.loc,I.cell,I.free,I.freeC,I.pin,I.hok,I.len⟩
theorem Inv.unwish (I : Inv (X.wish E) pins σ H s) : Inv X pins σ H s := ⟨I.ok.unwish,I.os,I.bare,I.base,I.loc,I.cell,I.free,I.freeC,I.pin,I.hok,I.len⟩
theorem SP.unwish {D : Ends} {f : Flow} {s' : Shared} (h : SP (X.wish E) pins D f s') : SP X pins D f s' := by
  cases f with
  | next => obtain ⟨σ',H',I,q⟩ := h; exact ⟨σ',H',I.unwish,q⟩
  | brk => obtain ⟨σ',H',I,q⟩ := h; exact ⟨σ',H',I.unwish,q⟩
  | cont => obtain ⟨σ',H',I,q⟩ := h; exact ⟨σ',H',I.unwish,q⟩
  | ret u => obtain ⟨v,σ',H',I,r,q⟩ := h; exact ⟨v,σ',H',I.unwish,r,q⟩
theorem PSs.nox {st : List Stmt} {t : TS} (h : PSs X.nox st t) : PSs X st t := fun pins s σ H D I hw =>
  wpAny_mono (h pins s σ H D (I.wish _) hw) (fun _ _ q => q.unwish) fun _ _ z => False.elim z
end
section
variable {X : Cx} {st : Stmt} {rest : List Stmt} {t u : TS} {e : Expr} {te : TE} {pos : Pos}
def tNext : TS := fun D σ H => D.nx σ H
def tSeq (t u : TS) : TS := fun D σ H => t { D with nx := u D } σ H
theorem pss_nil : PSs X [] tNext := fun _ _ σ H _ I h => wpAny_execs_nil ⟨σ,H,I,h⟩
theorem pss_cons (h1 : PS X st t) (h2 : PSs X rest u) : PSs X (st :: rest) (tSeq t u) := by
  intro pins s σ H D I h
  refine wpAny_execs_cons (thn (h1 pins s σ H { D with nx := u D } I h) fun f s1 q => ?_)
  cases f with
  | next =>
    obtain ⟨σ',H',I',q⟩ := q
    exact h2 pins s1 σ' H' D I' q
  | ret v => exact q
  | brk => exact q
  | cont => exact q
theorem pss_one (h1 : PS X st t) : PSs X [st] t := by
  intro pins s σ H D I h
  refine wpAny_execs_cons (thn (h1 pins s σ H D I h) fun f s1 q => ?_)
  cases f with
  | next => exact wpAny_execs_nil q
  | ret v => exact q
  | brk => exact q
  | cont => exact q
theorem Inv.quiet {pins : List (Addr × Obj)} {σ : St} {H : Hp} {s : Shared} (I : Inv X pins σ H s) : interactive X.env = false := by simp [interactive,I.ok.kind]
def tDrop (te : TE) : TS := fun D σ H => te σ H fun _ H1 => D.nx σ H1
theorem ps_expr (he : PE X e te) (hs : swapsWith e none pos.line X.env = pure false := by rfl) : PS X (.Expr e pos) (tDrop te) := by
  intro pins s σ H D I h
  exact wpAny_Expr_any (thn (he pins s σ H _ I h) fun v s1 ⟨x,H1,I1,r1,q1⟩ => ⟨σ,H1,I1,q1⟩) I.quiet hs
def tRet (te : TE) : TS := fun D σ H => te σ H D.rt
theorem ps_ret (he : PE X e te) : PS X (.Return (some e) pos) (tRet te) := by
  intro pins s σ H D I h
  exact wpAny_Return_some (thn (he pins s σ H _ I h) fun v s1 ⟨x,H1,I1,r1,q1⟩ => ⟨x,σ,H1,I1,r1,q1⟩)
def tIfS (c : TT) (t u : TS) : TS := fun D σ H => c σ H fun b H1 => if b = true then t D σ H1 else u D σ H1
theorem ps_if {c : Expr} {a b : List Stmt} {tc : TT} (hc : PT X c tc) (ha : PSs X a t) (hb : PSs X b u) : PS X (.If c a b pos) (tIfS tc t u) := by
  intro pins s σ H D I h
  refine wpAny_If (thn (hc pins s σ H _ I h) fun d s1 ⟨H1,I1,q1⟩ => ?_)
  cases d with
  | true => exact ha pins s1 σ H1 D I1 q1
  | false => exact hb pins s1 σ H1 D I1 q1
end
abbrev TG := V → St → Hp → (St → Hp → Prop) → Prop
abbrev TGs := List V → St → Hp → (St → Hp → Prop) → Prop
def PG (X : Cx) (target : Expr) (t : TG) : Prop :=
  ∀ (pins : List (Addr × Obj)) (s : Shared) (σ : St) (H : Hp) (v : V) (u : Value) (Q : St → Hp → Prop),Inv X pins σ H s → RelV v u → t v σ H Q →
    wpAny (model X.prog X.w) X.A (assign target X.env u) (fun _ s' => ∃ σ' H',Inv X pins σ' H' s' ∧ Q σ' H') X.xe s
def PGs (X : Cx) (ts : List Expr) (t : TGs) : Prop :=
  ∀ (pins : List (Addr × Obj)) (s : Shared) (σ : St) (H : Hp) (vs : List V) (us : List Value) (Q : St → Hp → Prop),Inv X pins σ H s → Vals vs us → t vs σ H Q →
    wpAny (model X.prog X.w) X.A (assignInOrder ((assignEach ts X.env).map (·.2)) us) (fun _ s' => ∃ σ' H',Inv X pins σ' H' s' ∧ Q σ' H') X.xe s
abbrev TSet := V → V → V → Hp → (Hp → Prop) → Prop
def PSet (X : Cx) (t : TSet) : Prop :=
  ∀ (pins : List (Addr × Obj)) (s : Shared) (σ : St) (H : Hp) (o i v : V) (ov iv u : Value) (Q : Hp → Prop),Inv X pins σ H s → RelV o ov → RelV i iv → RelV v u → t o i v H Q →
    wpAny (model X.prog X.w) X.A (setItem ov iv u) (fun _ s' => ∃ H',Inv X pins σ H' s' ∧ Q H') X.xe s
section
variable {X : Cx} {pos : Pos}
def gName (i : Nat) : TG := fun v σ H Q => Q (σ.set i (some v)) H
theorem pg_name {i : Nat} {x : Str} (hN : X.N.Nodup) (hi : X.N[i]? = some x) (hx : Loc X.env.scope x) (hf : X.fn x = true ∨ X.env.scope.names.lookup x = some .local := by first | exact .inl rfl | exact .inr rfl | assumption) : PG X (.Name x pos) (gName i) := by
  intro pins s σ H v u Q I r h
  exact wpAny_assign_Name (store_ok I hN hi hx r (fun s' I' => ⟨_,H,I',h⟩) hf)
def gNil : TGs := fun vs σ H Q => vs = [] ∧ Q σ H
def gCons (t : TG) (u : TGs) : TGs := fun vs σ H Q => ∃ v r,vs = v :: r ∧ t v σ H fun σ' H' => u r σ' H' Q
theorem pgs_nil : PGs X [] gNil := by
  intro pins s σ H vs us Q I r h
  obtain ⟨e,h⟩ := h
  subst e
  cases r
  exact assignInOrder_nil ⟨σ,H,I,h⟩
theorem pgs_cons {e : Expr} {es : List Expr} {t : TG} {u : TGs} (h1 : PG X e t) (h2 : PGs X es u)
    (hs : (assignEach (e :: es) X.env).map (·.2) = assign e X.env :: (assignEach es X.env).map (·.2) := by rfl) : PGs X (e :: es) (gCons t u) := by
  intro pins s σ H vs us Q I r h
  obtain ⟨v,vr,e1,h⟩ := h
  subst e1
  cases r with
  | cons r rr =>
    rw [hs]
    refine assignInOrder_cons (thn (h1 pins s σ H _ _ _ I r h) fun _ s1 ⟨σ1,H1,I1,q1⟩ => ?_)
    exact h2 pins s1 σ1 H1 _ _ Q I1 rr q1
def gTup (K : PySem.W.Frag) (n : Nat) (t : TGs) : TG := fun v σ H Q => ∃ a xs,v = .ref a ∧ SqT K H a xs ∧ xs.length = n ∧ t xs σ H Q
theorem pg_tup {es : List Expr} {k : Nat} {t : TGs} {n : Nat} (hc : X.calm = true) (h : PGs X es t)
    (hn : (assignEach es X.env).length = n := by rfl) (hst : (assignEach es X.env).findIdx? (·.1) = none := by rfl) : PG X (.Tuple es k pos) (gTup X.K n t) := by
  intro pins s σ H v u Q I r hw
  obtain ⟨a,xs,e1,hq,hl,hw⟩ := hw
  subst e1
  cases r
  obtain ⟨its,rv,ht,hz⟩ := I.tuple hq
  refine assign_Tuple_tuple (I.ok.hd hc) ht (by simp [hn,← hl,rv.length]) hst fun h' hx => ?_
  have I1 : Inv X pins σ H { s with heap := h' } := I.kept (t' := s.toks) fun b o e => hx b o (Nat.ne_of_lt (Heap.lt_size e)) e
  exact h pins _ σ H xs _ Q I1 (by simpa using rv) hw
def gSub (to ti : TE) (t : TSet) : TG := fun v σ H Q => to σ H fun o H1 => ti σ H1 fun i H2 => t o i v H2 fun H3 => Q σ H3
theorem pg_sub {o i : Expr} {to ti : TE} {t : TSet} (ho : PE X o to) (hi : PE X i ti) (hs : PSet X t)
    (ha : ∀ v,assign (.Subscript o i pos) X.env v = (do
      let ov ← holding [v] (eval o X.env)
      let iv ← holding [v,ov] (eval i X.env)
      standAt pos
      holding [v,ov,iv] (setItem ov iv v)
      release [v,ov,iv] []) := by intro _; rfl) : PG X (.Subscript o i pos) (gSub to ti t) := by
  intro pins s σ H v u Q I r h
  rw [ha]
  refine wpAny_bind (wpAny_holding (thn (ho pins s σ H _ I h) fun ov s1 ⟨x,H1,I1,r1,q1⟩ => ?_))
  refine wpAny_bind (wpAny_holding (thn (hi pins s1 σ H1 _ I1 q1) fun iv s2 ⟨y,H2,I2,r2,q2⟩ => ?_))
  refine wpAny_bind (wpAny_standAt (wpAny_bind (wpAny_holding (thn (hs pins s2 σ H2 x y v ov iv u _ I2 r1 r2 r q2) fun _ s3 ⟨H3,I3,q3⟩ => ?_))))
  exact wpAny_release ⟨σ,H3,I3,q3⟩
def tAsg (te : TE) (g : TG) : TS := fun D σ H => te σ H fun x H1 => g x σ H1 D.nx
theorem ps_asg {tg e : Expr} {te : TE} {g : TG} (he : PE X e te) (hg : PG X tg g) (hs : swapsWithSole [tg] e pos.line X.env = pure false := by rfl) (hw : swappedStores [tg] e X.env = pure none := by rfl)
    (h1 : (assignEach [tg] X.env).map (·.2) = [assign tg X.env] := by rfl) : PS X (.Assign [tg] e pos) (tAsg te g) := by
  intro pins s σ H D I h
  refine wpAny_Assign_stores (thn (he pins s σ H _ I h) fun v s1 ⟨x,H1,I1,r1,q1⟩ => ?_) hs hw
  rw [h1]
  exact thn (hg pins s1 σ H1 x v _ I1 r1 q1) fun _ s2 q => q
theorem ps_set {i : Nat} {x : Str} {e : Expr} {te : TE} {pos' : Pos} (hN : X.N.Nodup) (hi : X.N[i]? = some x) (hx : Loc X.env.scope x) (he : PE X e te) (hs : swapsWith e (some (.Name x pos')) pos.line X.env = pure false := by rfl) (hf : X.fn x = true ∨ X.env.scope.names.lookup x = some .local := by first | exact .inl rfl | exact .inr rfl | assumption) :
    PS X (.Assign [.Name x pos'] e pos) (tAsg te (gName i)) := by
  intro pins s σ H D I h
  refine wpAny_Assign_Name (thn (he pins s σ H _ I h) fun v s1 ⟨y,H1,I1,r1,q1⟩ => ?_) hs
  exact store_ok I1 hN hi hx r1 (fun s2 I2 => ⟨_,H1,I2,q1⟩) hf
def tPar (i j : Nat) (ta : TA) : TS := fun D σ H => ta σ H fun vs H1 => ∃ v w,vs = [v,w] ∧ D.nx ((σ.set i (some v)).set j (some w)) H1
theorem ps_par {i j : Nat} {x y : Str} {a b : Expr} {ta : TA} {px py pt : Pos} {kt k2 pt2} (hc : X.calm = true) (hN : X.N.Nodup) (hi : X.N[i]? = some x) (hj : X.N[j]? = some y) (hij : i ≠ j)
    (hx : X.env.scope.names.lookup x = some .local) (hy : X.env.scope.names.lookup y = some .local) (ha : PA X [a,b] ta)
    (hw : swappedStores [.Tuple [.Name x px,.Name y py] kt pt] (.Tuple [a,b] k2 pt2) X.env = pure (some [x,y]))
    (hs : swapsWithSole [.Tuple [.Name x px,.Name y py] kt pt] (.Tuple [a,b] k2 pt2) pos.line X.env = pure false := by rfl) :
    PS X (.Assign [.Tuple [.Name x px,.Name y py] kt pt] (.Tuple [a,b] k2 pt2) pos) (tPar i j ta) := by
  intro pins s σ H D I h
  rw [exec_Assign_arm]
  refine wpAny_bind (wpAny_standAt ?_)
  rw [hs]
  refine wpAny_bind (wpAny_pure ?_)
  rw [if_neg (by decide)]
  refine wpAny_bind (Tuple_ (thn (ha _ pins s σ H _ I h) fun us s1 ⟨vs,H1,I1,r1,q1⟩ => ?_))
  obtain ⟨v,w,e1,q1⟩ := q1
  subst e1
  obtain ⟨u1,u2,rfl,rv,rw'⟩ : ∃ u1 u2,us = [u1,u2] ∧ RelV v u1 ∧ RelV w u2 := by
    cases r1 with
    | cons p q =>
      cases q with
      | cons p' q' =>
        cases q'
        exact ⟨_,_,rfl,p,p'⟩
  refine wpAny_newObj_type ?_ (by show 2 ≤ sizeLine; decide)
  have I2 : Inv X pins σ H1 { s1 with heap := s1.heap.push { cls := .type "tuple",data := .seq [u1,u2].toArray } } := I1.kept (t' := s1.toks) fun b o e => Heap.get?_push_of_some _ e
  rw [hw]
  refine wpAny_bind (wpAny_pure ?_)
  show wpAny (model X.prog X.w) X.A (do rule "assign.swapped-stores"; let items ← unpackItems (.ref s1.heap.objs.size) 2 none; assignInOrder [fun v => bindName X.env y v,fun v => bindName X.env x v] items.reverse; pure Flow.next) _ _ _
  refine wpAny_bind (wpAny_rule (wpAny_bind (unpackItems_tuple (items := #[u1,u2]) (I.ok.hd hc) (IsTup.new s1.heap _) fun h' hx' => ?_)))
  have I3 := I2.kept (h' := h') (t' := s1.toks) fun b o e => hx' b o (Nat.ne_of_lt (Heap.lt_size e)) e
  show wpAny _ _ (assignInOrder [fun v => bindName X.env y v,fun v => bindName X.env x v] [u2,u1] >>= fun _ => pure Flow.next) _ _ _
  refine wpAny_bind (assignInOrder_cons (wpAny_bindName (store_ok I3 hN hj (.inl hy) rw' (fun s2 I4 => ?_) (.inr hy))))
  refine assignInOrder_cons (wpAny_bindName (store_ok I4 hN hi (.inl hx) rv (fun s3 I5 => assignInOrder_nil (wpAny_pure ?_)) (.inr hx)))
  rw [List.set_comm _ _ (Ne.symm hij)] at I5
  exact ⟨_,H1,I5,q1⟩
end
section
variable {X : Cx} {pos : Pos}
def tWhile (c : TT) (tb : TS) : TS := fun D σ H => ∃ W : Nat → St → Hp → Prop,(∃ m,W m σ H) ∧ ∀ m σ H,W m σ H →
  c σ H fun b H1 => if b = true then ∃ N : St → Hp → Prop,(∀ σ' H',N σ' H' → ∃ m',m' < m ∧ W m' σ' H') ∧ tb { D with nx := N,ct := N,bk := D.nx } σ H1 else D.nx σ H1
theorem ps_while {c : Expr} {body : List Stmt} {tc : TT} {tb : TS} (hp : PassesOwn (model X.prog X.w) X.A X.env X.xe) (hc : PT X c tc) (hb : PSs X body tb) : PS X (.While c body [] pos) (tWhile tc tb) := by
  intro pins s σ H D I h
  obtain ⟨W,⟨m0,w0⟩,turn⟩ := h
  refine wpAny_While (codeAny_whileLoop (fun n s' => ∃ σ' H',Inv X pins σ' H' s' ∧ W n σ' H') ?_ m0 ⟨σ,H,I,w0⟩)
  rintro n s1 ⟨σ1,H1,I1,w1⟩
  refine wpAny_passesOwn hp (thn (hc pins s1 σ1 H1 _ I1 (turn n σ1 H1 w1)) fun b s2 ⟨H2,I2,q2⟩ => ?_)
  cases b with
  | true =>
    obtain ⟨N,hN,q2⟩ := q2
    rw [if_pos rfl]
    refine wpAny_passesOwn hp (thn (hb pins s2 σ1 H2 _ I2 q2) fun f s3 q3 => ?_)
    cases f with
    | next =>
      obtain ⟨σ3,H3,I3,n3⟩ := q3
      obtain ⟨m',hm,w3⟩ := hN σ3 H3 n3
      exact ⟨m',hm,σ3,H3,I3,w3⟩
    | cont =>
      obtain ⟨σ3,H3,I3,n3⟩ := q3
      obtain ⟨m',hm,w3⟩ := hN σ3 H3 n3
      exact ⟨m',hm,σ3,H3,I3,w3⟩
    | brk => exact q3
    | ret v => exact q3
  | false =>
    rw [if_neg Bool.false_ne_true]
    exact wpAny_execs_nil ⟨σ1,H2,I2,q2⟩
end
structure It where
  go : Nat → Hp → Prop
  yld : Nat → Hp → V → Hp → Prop
  stop : Nat → Hp → Prop
def FpOk (X : Cx) (pins : List (Addr × Obj)) (H : Hp) (b : Addr) : Prop :=
  H b = none ∧ b ≠ X.env.locals ∧ b ∉ X.fs ∧ (b ∈ X.ex ∨ X.s₀.heap.objs.size ≤ b) ∧ (∀ x c,X.env.cells.lookup x = some c → c ≠ b) ∧ ∀ p ∈ X.pn ++ pins,p.1 ≠ b
theorem Inv.fpOk {X : Cx} {pins : List (Addr × Obj)} {σ : St} {H H' : Hp} {s : Shared} {b : Addr} (I : Inv X pins σ H s) (hb : s.heap.objs.size ≤ b) (hn : H' b = none) : FpOk X pins H' b := by
  refine ⟨hn,Nat.ne_of_gt (Nat.lt_of_lt_of_le I.lt hb),I.nofs hb,.inr (Nat.le_trans I.sz hb),fun x c e z => ?_,fun p hp z => ?_⟩
  · obtain ⟨v,q⟩ := I.cell x c e
    exact absurd (Nat.lt_of_lt_of_le q.lt (by rw [z]; exact hb)) (Nat.lt_irrefl _)
  · exact absurd (Nat.lt_of_lt_of_le (Heap.lt_size (I.pin p hp).1) (by rw [z]; exact hb)) (Nat.lt_irrefl _)
structure Turn (P : Program) (w : World) (K : PySem.W.Frag) (tg : Expr) (J : It) (fp : List Addr) (it : Addr) (tn : Nat → Heap → Prop) : Prop where
  mem : it ∈ fp
  obj : ∀ i h,tn i h → ∀ b ∈ fp,∃ o,h.get? b = some o ∧ ∀ v,o.data ≠ .cell v
  keep : ∀ i h h',tn i h → (∀ b ∈ fp,∀ o,h.get? b = some o → h'.get? b = some o) → tn i h'
  item : ∀ (X : Cx),X.prog = P → X.w = w → X.K = K → X.calm = true → ∀ (i : Nat) (pins : List (Addr × Obj)) (s : Shared) (σ : St) (H : Hp) (E : Value → Shared → Prop),Inv X pins σ H s → (∀ b ∈ fp,FpOk X pins H b) → tn i s.heap → J.go i H →
    wpAny (model P w) X.A (pyNext (.ref it)) (fun r s1 => ∃ u,r = some u ∧
      wpAny (model P w) X.A (letOwnedTupleGo tg (.ref it) u) (fun _ s2 => ∃ x H',Inv X pins σ H' s2 ∧ RelV x u ∧ J.yld i H x H' ∧ tn (i + 1) s2.heap ∧ ∀ b ∈ fp,H' b = none) E s1) E s
  done : ∀ (X : Cx),X.prog = P → X.w = w → X.K = K → X.calm = true → ∀ (i : Nat) (pins : List (Addr × Obj)) (s : Shared) (σ : St) (H : Hp) (E : Value → Shared → Prop),Inv X pins σ H s → (∀ b ∈ fp,FpOk X pins H b) → tn i s.heap → J.stop i H →
    wpAny (model P w) X.A (pyNext (.ref it)) (fun r s1 => r = none ∧ Inv X pins σ H s1) E s
  self : ∀ (A : Around) (i : Nat) (s : Shared) (Q : Value → Shared → Prop) (E : Value → Shared → Prop),tn i s.heap → Q (.ref it) s → wpAny (model P w) A (pyIter (.ref it)) Q E s
abbrev TI := St → Hp → (It → Hp → Prop) → Prop
def PIE (X : Cx) (pins : List (Addr × Obj)) (σ : St) (tg : Expr) (R : It → Hp → Prop) (itv : Value) (s2 : Shared) : Prop :=
  ∃ (it : Addr) (fp : List Addr) (tn : Nat → Heap → Prop) (J : It) (H' : Hp),itv = .ref it ∧ Inv X pins σ H' s2 ∧ Turn X.prog X.w X.K tg J fp it tn ∧ tn 0 s2.heap ∧ (∀ b ∈ fp,FpOk X pins H' b) ∧ R J H'
def PI (X : Cx) (tg iter : Expr) (wi : TI) : Prop :=
  ∀ (pins : List (Addr × Obj)) (s : Shared) (σ : St) (H : Hp) (R : It → Hp → Prop),Inv X pins σ H s → wi σ H R →
    wpAny (model X.prog X.w) X.A (eval iter X.env) (fun v s1 => wpAny (model X.prog X.w) X.A (pyIter v) (PIE X pins σ tg R) X.xe s1) X.xe s
theorem go_of {M : Model} {A : Around} {E : Value → Shared → Prop} {s : Shared} {tg : Expr} {it : Addr} {u : Value} {o : Obj} {n : String} {vs : Array Value} {Q : Unit → Shared → Prop} (ho : s.heap.get? it = some o) (hc : o.cls = .type n) (hd : o.data = .fields vs)
    (hn : ["enumerate","zip","dict_itemiterator","dict_reverseitemiterator","odict_iterator","itertools.zip_longest","itertools.pairwise"].contains n = false) (hQ : Q () s) : wpAny M A (letOwnedTupleGo tg (.ref it) u) Q E s := by
  unfold letOwnedTupleGo
  cases tg <;> first
    | exact wpAny_pure hQ
    | (cases u <;> first
        | exact wpAny_pure hQ
        | (refine wpAny_bind (wpAny_load ho ?_)
           rw [hc,hd]
           show wpAny M A (if (["enumerate","zip","dict_itemiterator","dict_reverseitemiterator","odict_iterator","itertools.zip_longest","itertools.pairwise"].contains n && vs[0]? == some (rawInt _)) = true then _ else _) Q E s
           rw [if_neg (by intro h; rw [hn,Bool.false_and] at h; cases h)]
           exact wpAny_pure hQ))
def Itl (K : PySem.W.Frag) (a : Addr) : It :=
  ⟨fun i H => ∃ xs x,SqL K H a xs ∧ xs[i]? = some x,fun i H x H' => H' = H ∧ ∀ xs,SqL K H a xs → xs[i]? = some x,fun i H => ∃ xs,SqL K H a xs ∧ xs.length ≤ i⟩
def Itr (lo : Int) (n : Nat) : It := ⟨fun i _ => i < n,fun i H x H' => H' = H ∧ x = .int (lo + i),fun i _ => n ≤ i⟩
theorem turn_list {P : Program} {w : World} {K : PySem.W.Frag} {tg : Expr} (a it : Addr) : Turn P w K tg (Itl K a) [it] it (fun i h => h.IsListIter it a i) where
  mem := by simp
  obj := fun i h st b hb => by
    have e : b = it := by simpa using hb
    subst e
    obtain ⟨o,e,c,d⟩ := st
    exact ⟨o,e,fun v z => by rw [d] at z; cases z⟩
  keep := fun i h h' st k => st.at fun o e => k it (by simp) o e
  item := by
    intro X hP hw hK hc i pins s σ H E I hf st hg
    subst hP hw hK
    obtain ⟨xs,x,hq,hx⟩ := hg
    obtain ⟨its,rv,p,hz⟩ := I.list hq
    obtain ⟨u,hu,ru⟩ := rv.get hx
    obtain ⟨f0,f1,f2,f3,f4,f5⟩ := hf it (by simp)
    refine wpAny_pyNext_list_item st p.isList (x := u) (by simpa using hu) fun h' st' sb => ?_
    have I1 : Inv X pins σ H { s with heap := h' } := I.turned (t' := s.toks) (fun b o hb e => (sb.2 b hb).trans e) f0 f1 f3 f4 f5
    obtain ⟨o,e,c,d⟩ := id st'
    exact ⟨u,rfl,go_of (s := { s with heap := h' }) e c d (by decide) ⟨x,H,I1,ru,⟨rfl,fun ys hy => by rw [I.list_inj hy hq]; exact hx⟩,st',fun b hb => (hf b hb).1⟩⟩
  done := by
    intro X hP hw hK hc i pins s σ H E I hf st hg
    subst hP hw hK
    obtain ⟨xs,hq,hx⟩ := hg
    obtain ⟨its,rv,p,hz⟩ := I.list hq
    obtain ⟨f0,f1,f2,f3,f4,f5⟩ := hf it (by simp)
    have hl := rv.length
    exact wpAny_pyNext_list_end (I.ok.hd hc) st p.isList (by simp; omega) fun h' eb => ⟨rfl,I.turned (t' := s.toks) (fun b o hb e => eb b o hb e) f0 f1 f3 f4 f5⟩
  self := fun _ _ _ _ _ st h => wpAny_pyIter_listiter st h
theorem turn_range {P : Program} {w : World} {K : PySem.W.Frag} {tg : Expr} (it : Addr) (lo : Int) (n : Nat) : Turn P w K tg (Itr lo n) [it] it (fun i h => IsRangeIter h it (lo + (i : Nat) * 1) ((n : Int) - (i : Nat)) 1) where
  mem := by simp
  obj := fun i h st b hb => by
    have e : b = it := by simpa using hb
    subst e
    exact ⟨_,st,fun v z => by
      have z' : Data.fields _ = Data.cell v := z
      cases z'⟩
  keep := fun i h h' st k => k it (by simp) _ st
  item := by
    intro X hP hw hK hc i pins s σ H E I hf st hg
    subst hP hw hK
    obtain ⟨f0,f1,f2,f3,f4,f5⟩ := hf it (by simp)
    have W := Walks.range (prog := X.prog) (w := X.w) (I.ok.hd hc) it lo 1 n
    refine W.item i s _ _ hg st fun v h' tk hv st' kk => ?_
    obtain ⟨t,rfl⟩ := hv
    have I1 : Inv X pins σ H { s with heap := h',toks := tk } := I.turned (fun b o hb e => kk b o (by simpa using hb) e) f0 f1 f3 f4 f5
    refine ⟨_,rfl,go_of (s := { s with heap := h',toks := tk }) (n := "range_iterator") st' rfl rfl (by decide) ⟨.int (lo + i),H,I1,⟨t,?_⟩,⟨rfl,rfl⟩,st',fun b hb => (hf b hb).1⟩⟩
    rw [Int.mul_one]
  done := by
    intro X hP hw hK hc i pins s σ H E I hf st hg
    subst hP hw hK
    obtain ⟨f0,f1,f2,f3,f4,f5⟩ := hf it (by simp)
    exact wpAny_pyNext_range_end (I.ok.hd hc) st (by have : n ≤ i := hg; omega) fun h' eb => ⟨rfl,I.turned (t' := s.toks) (fun b o hb e => eb b o hb e) f0 f1 f3 f4 f5⟩
  self := fun _ _ _ _ _ st h => wpAny_pyIter_rangeiter st h
end L2
namespace L2
open PySem PySem.Spec PyProof.Rows
section
variable {X : Cx} {tg : Expr}
def iList (K : PySem.W.Frag) (tl : TE) : TI := fun σ H R => tl σ H fun x H1 => ∃ a,x = .ref a ∧ (∃ xs,SqL K H1 a xs) ∧ R (Itl K a) H1
theorem pi_list {l : Expr} {tl : TE} (hl : PE X l tl) : PI X tg l (iList X.K tl) := by
  intro pins s σ H R I h
  refine thn (hl pins s σ H _ I h) fun v s1 ⟨x,H1,I1,r1,q1⟩ => ?_
  obtain ⟨a,e,⟨xs,hq⟩,q⟩ := q1
  subst e
  cases r1
  obtain ⟨its,rv,p,hz⟩ := I1.list hq
  refine wpAny_pyIter_list p.isList ?_
  refine ⟨s1.heap.objs.size,[s1.heap.objs.size],_,_,H1,rfl,I1.kept (t' := s1.toks) fun b o e => Heap.get?_push_of_some _ e,turn_list a _,⟨_,Heap.get?_push_size _ rfl,rfl,rfl⟩,fun b hb => ?_,q⟩
  have e : b = s1.heap.objs.size := by simpa using hb
  subst e
  exact I1.fpOk (Nat.le_refl _) (I1.hok.fresh (Nat.le_refl _))
theorem range_it {pins : List (Addr × Obj)} {σ : St} {H : Hp} {s : Shared} {R : It → Hp → Prop} {E : Value → Shared → Prop} {lo hi : Int} {t u v : Tok} {tk : Nat} (I : Inv X pins σ H s) (h1 : -(2 ^ 62) ≤ lo) (h2 : lo < 2 ^ 62) (h3 : -(2 ^ 62) ≤ hi) (h4 : hi < 2 ^ 62)
    (q : R (Itr lo (hi - lo).toNat) H) : wpAny (model X.prog X.w) X.A (pyIter (.ref s.heap.objs.size)) (PIE X pins σ tg R) E { s with heap := s.heap.push { cls := .type "range",data := .fields #[.int lo t,.int hi u,.int 1 v] },toks := tk } := by
  refine wpAny_pyIter_range (IsRange.new ..) (small_one h1 h2 h3 h4) ?_
  have I1 : Inv X pins σ H { s with heap := s.heap.push { cls := .type "range",data := .fields #[.int lo t,.int hi u,.int 1 v] },toks := tk } := I.kept fun b o e => Heap.get?_push_of_some _ e
  refine ⟨(s.heap.push { cls := .type "range",data := .fields #[.int lo t,.int hi u,.int 1 v] }).objs.size,[(s.heap.push { cls := .type "range",data := .fields #[.int lo t,.int hi u,.int 1 v] }).objs.size],_,_,H,rfl,
    I1.kept (t' := tk) fun b o e => Heap.get?_push_of_some _ e,turn_range _ lo (hi - lo).toNat,?_,fun b hb => ?_,q⟩
  · have e1 : lo + ((0 : Nat) : Int) * 1 = lo := by simp
    have e2 : (((hi - lo).toNat : Nat) : Int) - ((0 : Nat) : Int) = Builtin.Range.rangeSize lo hi 1 := by rw [rangeSize_one]; split <;> omega
    show IsRangeIter _ _ (lo + ((0 : Nat) : Int) * 1) ((((hi - lo).toNat : Nat) : Int) - ((0 : Nat) : Int)) 1
    rw [e1,e2]
    exact Heap.get?_push_size _ rfl
  · have e : b = (s.heap.push { cls := .type "range",data := .fields #[.int lo t,.int hi u,.int 1 v] }).objs.size := by simpa using hb
    subst e
    exact I1.fpOk (Nat.le_refl _) (I1.hok.fresh (Nat.le_refl _))
def iRng1 (ta : TA) : TI := fun σ H R => ta σ H fun vs H1 => ∃ j : Int,vs = [.int j] ∧ -(2 ^ 62) ≤ j ∧ j < 2 ^ 62 ∧ R (Itr 0 j.toNat) H1
theorem pi_range1 {a : Expr} {ta : TA} {p pos : Pos} (hg : Gl X "range") (hm : X.mg "range" = none) (ha : PA X [a] ta) (hs : starEach [a] X.env = [(false,eval a X.env)] := by rfl) : PI X tg (.Call (.Name "range" p) [a] [] pos) (iRng1 ta) := by
  intro pins s σ H R I h
  refine Call_ (ld_blt I hg hm boot_range (PyProof.Rows.callWith_type1 (thn (ha pos pins s σ H _ I h) fun us s1 ⟨vs,H1,I1,r1,q1⟩ => ?_) hs rfl))
  obtain ⟨j,e,q1,q2,q⟩ := q1
  subst e
  cases r1 with
  | cons r rr =>
    cases rr
    obtain ⟨t,rfl⟩ := r
    exact call_range_1 (range_it I1 (by omega) (by omega) q1 q2 (by simpa using q))
def tFor (wi : TI) (g : TG) (tb : TS) : TS := fun D σ H => wi σ H fun J H1 => ∃ W : Nat → Nat → St → Hp → Prop,(∃ m,W 0 m σ H1) ∧ ∀ i m σ H,W i m σ H →
  (J.stop i H ∧ D.nx σ H) ∨ (J.go i H ∧ ∃ N : St → Hp → Prop,(∀ σ' H',N σ' H' → ∃ m',m' < m ∧ W (i + 1) m' σ' H') ∧ ∀ x H',J.yld i H x H' → g x σ H' fun σ2 H2 => tb { D with nx := N,ct := N,bk := D.nx } σ2 H2)
def pinsAt (fp : List Addr) (h : Heap) : List (Addr × Obj) := fp.filterMap fun b => (h.get? b).map fun o => (b,o)
theorem mem_pinsAt {fp : List Addr} {h : Heap} {b : Addr} {o : Obj} (hb : b ∈ fp) (e : h.get? b = some o) : (b,o) ∈ pinsAt fp h := List.mem_filterMap.mpr ⟨b,hb,by rw [e]; rfl⟩
theorem of_pinsAt {fp : List Addr} {h : Heap} {p : Addr × Obj} (hp : p ∈ pinsAt fp h) : p.1 ∈ fp ∧ h.get? p.1 = some p.2 := by
  obtain ⟨b,hb,e⟩ := List.mem_filterMap.mp hp
  cases q : h.get? b with
  | none => rw [q] at e; cases e
  | some o =>
    rw [q] at e
    have e' : (b,o) = p := Option.some.inj e
    subst e'
    exact ⟨hb,q⟩
theorem Inv.pinned {pins : List (Addr × Obj)} {σ : St} {H : Hp} {s : Shared} {fp : List Addr} (I : Inv X pins σ H s) (hf : ∀ b ∈ fp,FpOk X pins H b) (ho : ∀ b ∈ fp,∃ o,s.heap.get? b = some o ∧ ∀ v,o.data ≠ .cell v) : Inv X (pins ++ pinsAt fp s.heap) σ H s :=
  I.pins_of fun p hp => (List.mem_append.mp hp).elim (fun z => I.pin p (List.mem_append_right _ z)) fun z => by
    obtain ⟨hb,e⟩ := of_pinsAt z
    obtain ⟨f0,f1,f2,_⟩ := hf p.1 hb
    obtain ⟨o,e',d⟩ := ho p.1 hb
    rw [e] at e'; cases e'
    exact ⟨e,f0,f1,f2,d⟩
theorem Inv.unpinned {pins pl : List (Addr × Obj)} {σ : St} {H : Hp} {s : Shared} (I : Inv X (pins ++ pl) σ H s) : Inv X pins σ H s := I.pins_of fun p hp => I.pin p (List.mem_append_right _ (List.mem_append_left _ hp))
theorem ps_for {iter : Expr} {body : List Stmt} {wi : TI} {g : TG} {tb : TS} {pos : Pos} (hp : PassesOwn (model X.prog X.w) X.A X.env X.xe) (hc : X.calm = true) (hi : PI X tg iter wi) (hg : PG X tg g) (hb : PSs X body tb)
    (hs : ∀ x,foldedSetIterable iter X.env x = pure x := by intro _; rfl) : PS X (.For tg iter body [] pos) (tFor wi g tb) := by
  intro pins s σ H D I h
  refine wpAny_For (thn (hi pins s σ H _ I h) fun v s1 h1 => thn h1 fun itv s2 h2 => ?_) hs
  obtain ⟨it,fp,tn,J,H2,e,I2,T,st2,f2,W,⟨m0,w0⟩,turn⟩ := h2
  subst e
  have stat : ∀ {H' : Hp},(∀ b ∈ fp,H' b = none) → ∀ b ∈ fp,FpOk X pins H' b := fun hn b hb => ⟨hn b hb,(f2 b hb).2⟩
  refine codeAny_forLoop_any (fun n s' => ∃ i σ' H',Inv X pins σ' H' s' ∧ tn i s'.heap ∧ (∀ b ∈ fp,H' b = none) ∧ W i n σ' H') ?_ m0 ⟨0,σ,H2,I2,st2,fun b hb => (f2 b hb).1,w0⟩
  rintro n s3 ⟨i,σ3,H3,I3,st3,fr3,w3⟩
  rcases turn i n σ3 H3 w3 with ⟨stop,qn⟩ | ⟨go,N,hN,step⟩
  · refine wpAny_passesOwn hp (thn (T.done X rfl rfl rfl hc i pins s3 σ3 H3 X.xe I3 (stat fr3) st3 stop) fun r s4 ⟨hr,I4⟩ => ?_)
    subst hr
    exact wpAny_execs_nil ⟨σ3,H3,I4,qn⟩
  · refine wpAny_passesOwn hp (thn (T.item X rfl rfl rfl hc i pins s3 σ3 H3 X.xe I3 (stat fr3) st3 go) fun r s4 ⟨u,hr,h4⟩ => ?_)
    subst hr
    refine wpAny_passesOwn hp (thn h4 fun _ s5 ⟨x,H5,I5,r5,y5,st5,fr5⟩ => ?_)
    have I5' := I5.pinned (stat fr5) (T.obj _ _ st5)
    refine wpAny_passesOwn hp (thn (hg _ s5 σ3 H5 x u _ I5' r5 (step x H5 y5)) fun _ s6 ⟨σ6,H6,I6,q6⟩ => ?_)
    refine wpAny_passesOwn hp (thn (hb _ s6 σ6 H6 _ I6 q6) fun f s7 q7 => ?_)
    have again : ∀ {σ7 : St} {H7 : Hp},Inv X (pins ++ pinsAt fp s5.heap) σ7 H7 s7 → N σ7 H7 → ∃ m,m < n ∧ ∃ i σ' H',Inv X pins σ' H' s7 ∧ tn i s7.heap ∧ (∀ b ∈ fp,H' b = none) ∧ W i m σ' H' := fun {σ7 H7} I7 n7 => by
      obtain ⟨m',hm,w7⟩ := hN σ7 H7 n7
      refine ⟨m',hm,i + 1,σ7,H7,I7.unpinned,T.keep _ _ _ st5 fun b hb o e => (I7.pin (b,o) (List.mem_append_right _ (List.mem_append_right _ (mem_pinsAt hb e)))).1,fun b hb => ?_,w7⟩
      obtain ⟨o,e,d⟩ := T.obj _ _ st5 b hb
      exact (I7.pin (b,o) (List.mem_append_right _ (List.mem_append_right _ (mem_pinsAt hb e)))).2.1
    cases f with
    | next => obtain ⟨σ7,H7,I7,n7⟩ := q7; exact again I7 n7
    | cont => obtain ⟨σ7,H7,I7,n7⟩ := q7; exact again I7 n7
    | brk => obtain ⟨σ7,H7,I7,q7⟩ := q7; exact ⟨σ7,H7,I7.unpinned,q7⟩
    | ret v => obtain ⟨x7,σ7,H7,I7,r7,q7⟩ := q7; exact ⟨x7,σ7,H7,I7.unpinned,r7,q7⟩
end
theorem for_list {K : PySem.W.Frag} {a : Addr} {xs : List V} {g : TG} {tb : TS} {D : Ends} {σ : St} {H : Hp} (Pv : Nat → St → Hp → Prop) (h0 : Pv 0 σ H) (hl : ∀ i σ H,i ≤ xs.length → Pv i σ H → SqL K H a xs)
    (hs : ∀ i x σ H,xs[i]? = some x → Pv i σ H → g x σ H fun σ2 H2 => tb { D with nx := Pv (i + 1),ct := Pv (i + 1),bk := D.nx } σ2 H2) (hd : ∀ σ H,Pv xs.length σ H → D.nx σ H) :
    ∃ W : Nat → Nat → St → Hp → Prop,(∃ m,W 0 m σ H) ∧ ∀ i m σ H,W i m σ H →
      ((Itl K a).stop i H ∧ D.nx σ H) ∨ ((Itl K a).go i H ∧ ∃ N : St → Hp → Prop,(∀ σ' H',N σ' H' → ∃ m',m' < m ∧ W (i + 1) m' σ' H') ∧ ∀ x H',(Itl K a).yld i H x H' → g x σ H' fun σ2 H2 => tb { D with nx := N,ct := N,bk := D.nx } σ2 H2) := by
  refine ⟨fun i m σ H => m = xs.length - i ∧ i ≤ xs.length ∧ Pv i σ H,⟨xs.length,by simp,Nat.zero_le _,h0⟩,?_⟩
  rintro i m σ H ⟨rfl,hi,p⟩
  have q := hl i σ H hi p
  by_cases hlt : i < xs.length
  · refine .inr ⟨⟨xs,xs[i],q,by simp [hlt]⟩,Pv (i + 1),fun σ' H' p' => ⟨xs.length - (i + 1),by omega,rfl,hlt,p'⟩,fun x H' y => ?_⟩
    obtain ⟨e,y⟩ := y
    subst e
    exact hs i x σ _ (y xs q) p
  · have e : i = xs.length := by omega
    subst e
    exact .inl ⟨⟨xs,q,Nat.le_refl _⟩,hd σ H p⟩
theorem for_range {lo : Int} {n : Nat} {g : TG} {tb : TS} {D : Ends} {σ : St} {H : Hp} (Pv : Nat → St → Hp → Prop) (h0 : Pv 0 σ H)
    (hs : ∀ i σ H,i < n → Pv i σ H → g (.int (lo + i)) σ H fun σ2 H2 => tb { D with nx := Pv (i + 1),ct := Pv (i + 1),bk := D.nx } σ2 H2) (hd : ∀ σ H,Pv n σ H → D.nx σ H) :
    ∃ W : Nat → Nat → St → Hp → Prop,(∃ m,W 0 m σ H) ∧ ∀ i m σ H,W i m σ H →
      ((Itr lo n).stop i H ∧ D.nx σ H) ∨ ((Itr lo n).go i H ∧ ∃ N : St → Hp → Prop,(∀ σ' H',N σ' H' → ∃ m',m' < m ∧ W (i + 1) m' σ' H') ∧ ∀ x H',(Itr lo n).yld i H x H' → g x σ H' fun σ2 H2 => tb { D with nx := N,ct := N,bk := D.nx } σ2 H2) := by
  refine ⟨fun i m σ H => m = n - i ∧ i ≤ n ∧ Pv i σ H,⟨n,by simp,Nat.zero_le _,h0⟩,?_⟩
  rintro i m σ H ⟨rfl,hi,p⟩
  by_cases hlt : i < n
  · refine .inr ⟨hlt,Pv (i + 1),fun σ' H' p' => ⟨n - (i + 1),by omega,rfl,hlt,p'⟩,fun x H' y => ?_⟩
    obtain ⟨e,y⟩ := y
    subst e y
    exact hs i σ _ hlt p
  · have e : i = n := by omega
    subst e
    exact .inl ⟨Nat.le_refl _,hd σ H p⟩
theorem while_by {c : TT} {tb : TS} {D : Ends} {σ : St} {H : Hp} (Pv : St → Hp → Prop) (μ : St → Hp → Nat) (h0 : Pv σ H)
    (hs : ∀ σ H,Pv σ H → c σ H fun b H1 => if b = true then tb { D with nx := fun σ' H' => Pv σ' H' ∧ μ σ' H' < μ σ H,ct := fun σ' H' => Pv σ' H' ∧ μ σ' H' < μ σ H,bk := D.nx } σ H1 else D.nx σ H1)
    (mono : ∀ σ H Q Q',(∀ b H1,Q b H1 → Q' b H1) → c σ H Q → c σ H Q') : tWhile c tb D σ H := by
  refine ⟨fun m σ H => m = μ σ H ∧ Pv σ H,⟨_,rfl,h0⟩,?_⟩
  rintro m σ H ⟨rfl,p⟩
  refine mono σ H _ _ (fun b H1 q => ?_) (hs σ H p)
  cases b with
  | true => exact ⟨_,fun σ' H' ⟨p',l⟩ => ⟨_,l,rfl,p'⟩,q⟩
  | false => exact q
end L2
namespace L2
open PySem PySem.Spec PyProof.Rows
abbrev R2 := V → V → Hp → VK → Prop
def OpR (X : Cx) (f : Value → Value → Sem Value) (r : R2) : Prop :=
  ∀ (pins : List (Addr × Obj)) (s : Shared) (σ : St) (H : Hp) (x y : V) (v u : Value) (Q : VK),Inv X pins σ H s → RelV x v → RelV y u → r x y H Q →
    wpAny (model X.prog X.w) X.A (f v u) (EP X pins σ Q) X.xe s
def UnR (X : Cx) (f : Value → Sem Value) (r : V → Hp → VK → Prop) : Prop :=
  ∀ (pins : List (Addr × Obj)) (s : Shared) (σ : St) (H : Hp) (x : V) (v : Value) (Q : VK),Inv X pins σ H s → RelV x v → r x H Q →
    wpAny (model X.prog X.w) X.A (f v) (EP X pins σ Q) X.xe s
def CallR (X : Cx) (f : Value) (r : List V → Hp → VK → Prop) : Prop :=
  ∀ (pins : List (Addr × Obj)) (s : Shared) (σ : St) (H : Hp) (xs : List V) (us : List Value) (Q : VK),Inv X pins σ H s → Vals xs us → r xs H Q →
    wpAny (model X.prog X.w) X.A (call f us) (EP X pins σ Q) X.xe s
def tOp (r : R2) (ta tb : TE) : TE := fun σ H Q => ta σ H fun x H1 => tb σ H1 fun y H2 => r x y H2 Q
def tUn (r : V → Hp → VK → Prop) (ta : TE) : TE := fun σ H Q => ta σ H fun x H1 => r x H1 Q
def rI (C : Int → Int → Prop) (g : Int → Int → V) : R2 := fun x y H Q => ∃ i j,x = .int i ∧ y = .int j ∧ C i j ∧ Q (g i j) H
def rI0 (g : Int → Int → V) : R2 := fun x y H Q => ∃ i j,x = .int i ∧ y = .int j ∧ Q (g i j) H
def rU (g : Int → V) : V → Hp → VK → Prop := fun x H Q => ∃ i,x = .int i ∧ Q (g i) H
section
variable {X : Cx} {a b c : Expr} {ta tb tc : TE} {pos : Pos}
theorem binT (ha : PE X a ta) (hb : PE X b tb) {pins : List (Addr × Obj)} {s : Shared} {σ : St} {H : Hp} {R : V → V → Hp → Prop} (I : Inv X pins σ H s)
    (h : ta σ H fun x H1 => tb σ H1 fun y H2 => R x y H2) {Q : Value → Shared → Prop} {f : Value → Value → Sem Value}
    (hf : ∀ v u s2 x y H2,Inv X pins σ H2 s2 → RelV x v → RelV y u → R x y H2 → wpAny (model X.prog X.w) X.A (f v u) Q X.xe s2) :
    wpAny (model X.prog X.w) X.A (eval a X.env) (fun v s₁ => wpAny (model X.prog X.w) X.A (eval b X.env) (fun u s₂ => wpAny (model X.prog X.w) X.A (f v u) Q X.xe s₂) X.xe s₁) X.xe s := by
  refine thn (ha pins s σ H _ I h) fun v s1 ⟨x,H1,I1,r1,q1⟩ => ?_
  refine thn (hb pins s1 σ H1 _ I1 q1) fun u s2 ⟨y,H2,I2,r2,q2⟩ => ?_
  exact hf v u s2 x y H2 I2 r1 r2 q2
theorem pe_op {op : Operator} {r : R2} (ho : OpR X (binaryOp op) r) (ha : PE X a ta) (hb : PE X b tb) : PE X (.BinOp a op b pos) (tOp r ta tb) := by
  intro pins s σ H Q I h
  exact wpAny_BinOp (binT ha hb I h fun v u s2 x y H2 I2 rx ry q => ho pins s2 σ H2 x y v u Q I2 rx ry q)
theorem pe_un {op : UnaryOp} {r : V → Hp → VK → Prop} (ho : UnR X (unaryOp op) r) (ha : PE X a ta) : PE X (.UnaryOp op a pos) (tUn r ta) := by
  intro pins s σ H Q I h
  exact UnaryOp_ (thn (ha pins s σ H _ I h) fun v s1 ⟨x,H1,I1,r1,q1⟩ => ho pins s1 σ H1 x v Q I1 r1 q1)
theorem opI {f : Value → Value → Sem Value} {C : Int → Int → Prop} {g : Int → Int → Int}
    (rule : ∀ (i j : Int) (t u : Tok) (s : Shared) (Q : Value → Shared → Prop) (E : Value → Shared → Prop),C i j → Q (.int (g i j) s.toks) { s with toks := s.toks + 1 } → wpAny (model X.prog X.w) X.A (f (.int i t) (.int j u)) Q E s) :
    OpR X f (rI C fun i j => .int (g i j)) := by
  intro pins s σ H x y v u Q I rx ry h
  obtain ⟨i,j,rfl,rfl,hc,q⟩ := h
  obtain ⟨t,rfl⟩ := rx
  obtain ⟨t',rfl⟩ := ry
  exact rule i j t t' s _ _ hc ⟨.int (g i j),H,I.tok _,⟨_,rfl⟩,q⟩
theorem opI0 {f : Value → Value → Sem Value} {g : Int → Int → Int}
    (rule : ∀ (i j : Int) (t u : Tok) (s : Shared) (Q : Value → Shared → Prop) (E : Value → Shared → Prop),Q (.int (g i j) s.toks) { s with toks := s.toks + 1 } → wpAny (model X.prog X.w) X.A (f (.int i t) (.int j u)) Q E s) :
    OpR X f (rI0 fun i j => .int (g i j)) := by
  intro pins s σ H x y v u Q I rx ry h
  obtain ⟨i,j,rfl,rfl,q⟩ := h
  obtain ⟨t,rfl⟩ := rx
  obtain ⟨t',rfl⟩ := ry
  exact rule i j t t' s _ _ ⟨.int (g i j),H,I.tok _,⟨_,rfl⟩,q⟩
theorem opB0 {f : Value → Value → Sem Value} {g : Int → Int → Bool}
    (rule : ∀ (i j : Int) (t u : Tok) (s : Shared) (Q : Value → Shared → Prop) (E : Value → Shared → Prop),Q (.bool (g i j)) s → wpAny (model X.prog X.w) X.A (f (.int i t) (.int j u)) Q E s) :
    OpR X f (rI0 fun i j => .bl (g i j)) := by
  intro pins s σ H x y v u Q I rx ry h
  obtain ⟨i,j,rfl,rfl,q⟩ := h
  obtain ⟨t,rfl⟩ := rx
  obtain ⟨t',rfl⟩ := ry
  exact rule i j t t' s _ _ ⟨.bl (g i j),H,I,rfl,q⟩
def CPow (i j : Int) : Prop := 0 ≤ j ∧ j ≤ 1000000 ∧ i.natAbs < 2 ^ 64
def CMul (i j : Int) : Prop := (-(2 ^ 64) < i ∧ i < 2 ^ 64) ∨ (-(2 ^ 64) < j ∧ j < 2 ^ 64)
theorem CMul.ok {i j : Int} (h : CMul i j) : IntMulOk i j := by
  rcases h with ⟨h1,h2⟩ | ⟨h1,h2⟩
  · exact .of_left (intBits_le_64 h1 h2)
  · exact .of_right (intBits_le_64 h1 h2)
theorem op_add : OpR X (binaryOp .Add) (rI0 fun i j => .int (i + j)) := opI0 fun _ _ _ _ _ _ _ q => add_int q
theorem op_sub : OpR X (binaryOp .Sub) (rI0 fun i j => .int (i - j)) := opI0 fun _ _ _ _ _ _ _ q => sub_int q
theorem op_mod : OpR X (binaryOp .Mod) (rI (fun _ j => 0 < j) fun i j => .int (i % j)) := opI fun i j _ _ _ _ _ hc q => by
  have h1 : (0 : Int) < j := hc
  exact mod_int' (by omega) (by rw [Int.fmod_eq_emod_of_nonneg i (by omega)]; exact q)
theorem op_pow : OpR X (binaryOp .Pow) (rI CPow fun i j => .int (i ^ j.toNat)) := opI fun _ _ _ _ _ _ _ hc q => pow_int_small hc.1 hc.2.1 hc.2.2 q
theorem unI {f : Value → Sem Value} {g : Int → Int}
    (rule : ∀ (i : Int) (t : Tok) (s : Shared) (Q : Value → Shared → Prop) (E : Value → Shared → Prop),Q (.int (g i) s.toks) { s with toks := s.toks + 1 } → wpAny (model X.prog X.w) X.A (f (.int i t)) Q E s) :
    UnR X f (rU fun i => .int (g i)) := by
  intro pins s σ H x v Q I rx h
  obtain ⟨i,rfl,q⟩ := h
  obtain ⟨t,rfl⟩ := rx
  exact rule i t s _ _ ⟨.int (g i),H,I.tok _,⟨_,rfl⟩,q⟩
theorem un_neg : UnR X (unaryOp .USub) (rU fun i => .int (-i)) := unI fun _ _ _ _ _ q => neg_int q
end
def scal : V → V → Bool
  | .non,.non => true | .non,.int _ => true | .int _,.non => true | .non,.bl _ => true | .bl _,.non => true | .non,.str _ => true | .str _,.non => true
  | .int _,.int _ => true | .bl _,.bl _ => true | .str _,.str _ => true | .byt _,.byt _ => true
  | .int _,.str _ => true | .str _,.int _ => true | .bl _,.str _ => true | .str _,.bl _ => true
  | _,_ => false
def rEq : R2 := fun x y H Q => scal x y = true ∧ Q (.bl (decide (x = y))) H
def rNe : R2 := fun x y H Q => scal x y = true ∧ Q (.bl (!decide (x = y))) H
theorem dec_int {i j : Int} : decide (V.int i = V.int j) = (i == j) := by
  rw [Bool.eq_iff_iff]
  simp
theorem dec_bl {i j : Bool} : decide (V.bl i = V.bl j) = (i == j) := by
  rw [Bool.eq_iff_iff]
  simp
theorem dec_str {i j : Str} : decide (V.str i = V.str j) = (i == j) := by
  rw [Bool.eq_iff_iff]
  simp
theorem dec_byt {i j : Array UInt8} : decide (V.byt i = V.byt j) = (i.toList == j.toList) := by
  rw [Bool.eq_iff_iff]
  cases i
  cases j
  simp
section
variable {X : Cx} {a b c : Expr} {ta tb tc : TE} {pos : Pos}
theorem fin_bl {pins : List (Addr × Obj)} {σ : St} {H : Hp} {s : Shared} {Q : VK} {k k' : Bool} (I : Inv X pins σ H s) (q : Q (.bl k) H) (e : k = k') : EP X pins σ Q (.bool k') s := by
  subst e
  exact ⟨.bl k,H,I,rfl,q⟩
theorem op_eq : OpR X (compareOp .Eq) rEq := by
  intro pins s σ H x y v u Q I rx ry h
  obtain ⟨hs,q⟩ := h
  cases x with
  | non =>
    cases rx
    cases y with
    | non => cases ry; exact PySem.EqNone.eq_none_none (fin_bl I q (by simp))
    | bl j => cases ry; exact PySem.EqNone.eq_none_bool (fin_bl I q (by simp))
    | int j => obtain ⟨t',rfl⟩ := ry; exact PySem.EqNone.eq_none_int (fin_bl I q (by simp))
    | str j => obtain ⟨t',rfl⟩ := ry; exact PySem.EqNone.eq_none_str (fin_bl I q (by simp))
    | _ => exact absurd (show false = true from hs) Bool.false_ne_true
  | bl i =>
    cases rx
    cases y with
    | non => cases ry; exact PySem.EqNone.eq_bool_none (fin_bl I q (by simp))
    | bl j => cases ry; exact eq_bool (fin_bl I q dec_bl)
    | str j => obtain ⟨t',rfl⟩ := ry; exact PySem.EqMixed.eq_bool_str (fin_bl I q (by simp))
    | _ => exact absurd (show false = true from hs) Bool.false_ne_true
  | int i =>
    obtain ⟨t,rfl⟩ := rx
    cases y with
    | non => cases ry; exact PySem.EqNone.eq_int_none (fin_bl I q (by simp))
    | int j => obtain ⟨t',rfl⟩ := ry; exact eq_int (fin_bl I q dec_int)
    | str j => obtain ⟨t',rfl⟩ := ry; exact PySem.EqMixed.eq_int_str (fin_bl I q (by simp))
    | _ => exact absurd (show false = true from hs) Bool.false_ne_true
  | str i =>
    obtain ⟨t,rfl⟩ := rx
    cases y with
    | non => cases ry; exact PySem.EqNone.eq_str_none (fin_bl I q (by simp))
    | bl j => cases ry; exact PySem.EqMixed.eq_str_bool (fin_bl I q (by simp))
    | int j => obtain ⟨t',rfl⟩ := ry; exact PySem.EqMixed.eq_str_int (fin_bl I q (by simp))
    | str j => obtain ⟨t',rfl⟩ := ry; exact eq_str (fin_bl I q dec_str)
    | _ => exact absurd (show false = true from hs) Bool.false_ne_true
  | byt i =>
    obtain ⟨t,rfl⟩ := rx
    cases y with
    | byt j => obtain ⟨t',rfl⟩ := ry; exact PySem.W.eq_bytes (fin_bl I q dec_byt)
    | _ => exact absurd (show false = true from hs) Bool.false_ne_true
  | _ => cases y <;> exact absurd (show false = true from hs) Bool.false_ne_true
theorem op_ne : OpR X (compareOp .NotEq) rNe := by
  intro pins s σ H x y v u Q I rx ry h
  obtain ⟨hs,q⟩ := h
  cases x with
  | non =>
    cases rx
    cases y with
    | non => cases ry; exact PySem.EqNone.ne_none_none (fin_bl I q (by simp))
    | bl j => cases ry; exact PySem.EqNone.ne_none_bool (fin_bl I q (by simp))
    | int j => obtain ⟨t',rfl⟩ := ry; exact PySem.EqNone.ne_none_int (fin_bl I q (by simp))
    | str j => obtain ⟨t',rfl⟩ := ry; exact PySem.EqNone.ne_none_str (fin_bl I q (by simp))
    | _ => exact absurd (show false = true from hs) Bool.false_ne_true
  | bl i =>
    cases rx
    cases y with
    | non => cases ry; exact PySem.EqNone.ne_bool_none (fin_bl I q (by simp))
    | bl j => cases ry; exact ne_bool (fin_bl I q (congrArg not dec_bl))
    | str j => obtain ⟨t',rfl⟩ := ry; exact PySem.EqMixed.ne_bool_str (fin_bl I q (by simp))
    | _ => exact absurd (show false = true from hs) Bool.false_ne_true
  | int i =>
    obtain ⟨t,rfl⟩ := rx
    cases y with
    | non => cases ry; exact PySem.EqNone.ne_int_none (fin_bl I q (by simp))
    | int j => obtain ⟨t',rfl⟩ := ry; exact ne_int (fin_bl I q (congrArg not dec_int))
    | str j => obtain ⟨t',rfl⟩ := ry; exact PySem.EqMixed.ne_int_str (fin_bl I q (by simp))
    | _ => exact absurd (show false = true from hs) Bool.false_ne_true
  | str i =>
    obtain ⟨t,rfl⟩ := rx
    cases y with
    | non => cases ry; exact PySem.EqNone.ne_str_none (fin_bl I q (by simp))
    | bl j => cases ry; exact PySem.EqMixed.ne_str_bool (fin_bl I q (by simp))
    | int j => obtain ⟨t',rfl⟩ := ry; exact PySem.EqMixed.ne_str_int (fin_bl I q (by simp))
    | str j => obtain ⟨t',rfl⟩ := ry; exact ne_str (fin_bl I q (congrArg not dec_str))
    | _ => exact absurd (show false = true from hs) Bool.false_ne_true
  | byt i =>
    obtain ⟨t,rfl⟩ := rx
    cases y with
    | byt j => obtain ⟨t',rfl⟩ := ry; exact PySem.W.ne_bytes (fin_bl I q (congrArg not dec_byt))
    | _ => exact absurd (show false = true from hs) Bool.false_ne_true
  | _ => cases y <;> exact absurd (show false = true from hs) Bool.false_ne_true
theorem op_lt : OpR X (compareOp .Lt) (rI0 fun i j => .bl (decide (i < j))) := opB0 fun _ _ _ _ _ _ _ q => lt_int q
theorem op_le : OpR X (compareOp .LtE) (rI0 fun i j => .bl (decide (i ≤ j))) := opB0 fun _ _ _ _ _ _ _ q => le_int q
theorem op_gt : OpR X (compareOp .Gt) (rI0 fun i j => .bl (decide (j < i))) := opB0 fun _ _ _ _ _ _ _ q => gt_int q
theorem op_ge : OpR X (compareOp .GtE) (rI0 fun i j => .bl (decide (j ≤ i))) := opB0 fun _ _ _ _ _ _ _ q => ge_int q
theorem op_isN : OpR X (compareOp .Is) (fun x y H Q => y = .non ∧ Q (.bl (decide (x = .non))) H) := by
  intro pins s σ H x y v u Q I rx ry h
  obtain ⟨rfl,q⟩ := h
  cases ry
  refine is_none_gen (fin_bl I q ?_)
  cases x <;> first
    | (cases rx; rfl)
    | (obtain ⟨t,rfl⟩ := rx; rfl)
theorem nomark (b : Expr) {op : CmpOp} (h : op ≠ .In := by decide) (h2 : op ≠ .NotIn := by decide) : behindInMarks op b = false := by
  have e1 : (op == CmpOp.In) = false := by cases op <;> first | rfl | exact absurd rfl h
  have e2 : (op == CmpOp.NotIn) = false := by cases op <;> first | rfl | exact absurd rfl h2
  cases b <;> simp [behindInMarks,e1,e2]
theorem pe_cmpR {op : CmpOp} {r : R2} (ho : OpR X (compareOp op) r) (ha : PE X a ta) (hb : PE X b tb) (hm : behindInMarks op b = false) : PE X (.Compare a [op] [b] pos) (tOp r ta tb) := by
  intro pins s σ H Q I h
  exact wpAny_Compare1 (binT ha hb I h fun v u s2 x y H2 I2 rx ry q => ho pins s2 σ H2 x y v u Q I2 rx ry q) hm
def tTest (t : TE) : TT := fun σ H Q => t σ H fun x H' => ∃ k,x = .bl k ∧ Q k H'
theorem pt_cmpR {op : CmpOp} {r : R2} (ho : OpR X (compareOp op) r) (ha : PE X a ta) (hb : PE X b tb) (hm : behindInMarks op b = false) : PT X (.Compare a [op] [b] pos) (tTest (tOp r ta tb)) := by
  intro pins s σ H Q I h
  refine wpAny_isTrue_Compare1 (thn (ha pins s σ H _ I h) fun v s1 ⟨x,H1,I1,r1,q1⟩ => thn (hb pins s1 σ H1 _ I1 q1) fun u s2 ⟨y,H2,I2,r2,q2⟩ =>
    thn (ho pins s2 σ H2 x y v u _ I2 r1 r2 q2) fun c s3 ⟨z,H3,I3,r3,k,e,q3⟩ => ?_) hm
  subst e
  cases r3
  exact wpAny_truthy_bool ⟨H3,I3,q3⟩
def tChain (r r' : R2) (ta tb tc : TE) : TE := fun σ H Q => ta σ H fun x H1 => tb σ H1 fun y H2 => r x y H2 fun z H3 => ∃ k,z = .bl k ∧
  (if k = true then tc σ H3 fun w' H4 => r' y w' H4 Q else Q (.bl false) H3)
theorem pt_chain {op op' : CmpOp} {r r' : R2} (ho : OpR X (compareOp op) r) (ho' : OpR X (compareOp op') r') (ha : PE X a ta) (hb : PE X b tb) (hc : PE X c tc)
    (hm : lastMarks [op,op'] [b,c] = false := by with_unfolding_all rfl) : PT X (.Compare a [op,op'] [b,c] pos) (tTest (tChain r r' ta tb tc)) := by
  intro pins s σ H Q I h
  refine isTrue_chain (thn (ha pins s σ H _ I h) fun v s1 ⟨x,H1,I1,r1,q1⟩ => test_link (thn (hb pins s1 σ H1 _ I1 q1) fun u s2 ⟨y,H2,I2,r2,q2⟩ =>
    thn (ho pins s2 σ H2 x y v u _ I2 r1 r2 q2) fun d s3 ⟨z,H3,I3,r3,k,e,q3⟩ => ?_)) hm
  subst e
  cases r3
  refine wpAny_truthy_bool ?_
  cases k with
  | false =>
    obtain ⟨k',e',q'⟩ := q3
    cases e'
    exact ite_ff ⟨H3,I3,q'⟩
  | true =>
    refine ite_tt (test_last (thn (hc pins s3 σ H3 _ I3 q3) fun w' s4 ⟨z',H4,I4,r4,q4⟩ => thn (ho' pins s4 σ H4 y z' u w' _ I4 r2 r4 q4) fun d' s5 ⟨z2,H5,I5,r5,k2,e2,q5⟩ => ?_))
    subst e2
    cases r5
    exact wpAny_truthy_bool ⟨H5,I5,q5⟩
theorem line63 : (sizeLine : Nat) < 2 ^ 63 := by rw [sizeLine_eq]; decide
theorem op_add_str : OpR X (binaryOp .Add) (fun x y H Q => ∃ i j,x = .str i ∧ y = .str j ∧ i.length + j.length ≤ sizeLine ∧ Q (.str (i ++ j)) H) := by
  intro pins s σ H x y v u Q I rx ry h
  obtain ⟨i,j,rfl,rfl,hz,q⟩ := h
  obtain ⟨t,rfl⟩ := rx
  obtain ⟨t',rfl⟩ := ry
  exact add_str (fun t' tk => ⟨.str (i ++ j),H,I.tok _,⟨_,rfl⟩,q⟩) hz
theorem vals1 {x : V} {us : List Value} (r : Vals [x] us) : ∃ u,us = [u] ∧ RelV x u := by
  cases r with
  | cons r1 r2 => cases r2; exact ⟨_,rfl,r1⟩
theorem vals2 {x y : V} {us : List Value} (r : Vals [x,y] us) : ∃ u w',us = [u,w'] ∧ RelV x u ∧ RelV y w' := by
  cases r with
  | cons r1 r2 =>
    cases r2 with
    | cons r3 r4 => cases r4; exact ⟨_,_,rfl,r1,r3⟩
theorem call_abs : CallR X (.builtin "abs") (fun xs H Q => ∃ i,xs = [.int i] ∧ Q (.int (if i < 0 then -i else i)) H) := by
  intro pins s σ H xs us Q I r h
  obtain ⟨i,rfl,q⟩ := h
  obtain ⟨u,rfl,t,rfl⟩ := vals1 r
  exact call_abs_int fun u tk => ⟨.int (if i < 0 then -i else i),H,I.tok _,⟨_,rfl⟩,q⟩
theorem call_max2 (hc : X.calm = true) : CallR X (.builtin "max") (fun xs H Q => ∃ i j,xs = [.int i,.int j] ∧ Q (.int (if j > i then j else i)) H) := by
  intro pins s σ H xs us Q I r h
  obtain ⟨i,j,rfl,q⟩ := h
  obtain ⟨u,w',rfl,⟨t,rfl⟩,⟨t',rfl⟩⟩ := vals2 r
  refine max_two_ints (I.ok.hd hc) fun h' tk k => ⟨_,H,I.kept k,?_,q⟩
  by_cases hj : j > i
  · rw [if_pos hj,if_pos hj]; exact ⟨_,rfl⟩
  · rw [if_neg hj,if_neg hj]; exact ⟨_,rfl⟩
theorem call_min2 (hc : X.calm = true) : CallR X (.builtin "min") (fun xs H Q => ∃ i j,xs = [.int i,.int j] ∧ Q (.int (if j < i then j else i)) H) := by
  intro pins s σ H xs us Q I r h
  obtain ⟨i,j,rfl,q⟩ := h
  obtain ⟨u,w',rfl,⟨t,rfl⟩,⟨t',rfl⟩⟩ := vals2 r
  refine min_two_ints (I.ok.hd hc) fun h' tk k => ⟨_,H,I.kept k,?_,q⟩
  by_cases hj : j < i
  · rw [if_pos hj,if_pos hj]; exact ⟨_,rfl⟩
  · rw [if_neg hj,if_neg hj]; exact ⟨_,rfl⟩
end
end L2
namespace L2
open PySem PySem.Spec PyProof.Rows
structure ObjM (h : Heap) (x dx C : Addr) (mA : Str → Option Value) : Prop where
  obj : h.get? x = some (PySem.W.instObj C dx)
  ns : h.Ns1 dx mA
  ne : dx ≠ x
theorem lookIn_ns {h : Heap} {dx : Addr} {mA : Str → Option Value} (n : h.Ns1 dx mA) : ∃ od,h.get? dx = some od ∧ ∀ name,PySem.W.lookIn name od = some (mA name) := by
  obtain ⟨o,es,ep,ho,hd,hk,_,hm⟩ := n
  refine ⟨o,ho,fun name => ?_⟩
  have e := hm name
  unfold nsFind findBy at e
  rw [← Array.find?_toList] at e
  unfold PySem.W.lookIn
  rw [hd]
  dsimp only
  split
  · rename_i y q
    rw [q] at e
    exact congrArg some e
  · rename_i q
    rw [q] at e
    have a : es.toList.any (·.refKey) = false := by
      rw [List.any_eq_false]
      intro y hy
      obtain ⟨z,t,hkey⟩ := hk y (Array.mem_toList_iff.mp hy)
      simp [DictEntry.refKey,hkey]
    have a' : ¬ es.toList.any (·.refKey) = true := by rw [a]; exact Bool.false_ne_true
    rw [if_neg a']
    exact congrArg some e
theorem ObjM.look {h : Heap} {x dx C : Addr} {mA : Str → Option Value} (I : ObjM h x dx C mA) : ∃ od,PySem.W.InstAt h x (PySem.W.instObj C dx) C (some od) ∧ ∀ name,PySem.W.lookIn name od = some (mA name) :=
  let ⟨od,ho,hl⟩ := lookIn_ns I.ns
  ⟨od,⟨I.obj,rfl,rfl,ho⟩,hl⟩
section
variable {prog : Program} {w : World} {A : Around} {E : Value → Shared → Prop} {s : Shared} {K : PySem.W.Frag} {x dx C f : Addr} {mA : Str → Option Value} {name : Str} {v : Value}
end
section
variable {P : Program} {w : World} {H H' : Hp} {h h' : Heap} {a C dx : Addr} {fs fs' : List (Str × V)}
theorem ins_get (hok : HOk P w H h) (e : H a = some (.ins C dx fs)) : ∃ mA,ObjM h a dx C mA ∧ (∀ f,RelO (fs.lookup f) (mA f)) ∧ PySem.Within mA (fs.map (·.1)) ∧ fs.length ≤ 1000 ∧ H dx = some (.own a) := by
  obtain ⟨d,z,ne,ob,mA,n,r,q⟩ := (show ObjOk P w H h a (.ins C dx fs) from hok a _ e)
  exact ⟨mA,⟨ob,n,ne⟩,r,q,z,d⟩
end
structure Cls (K : PySem.W.Frag) (C : Addr) : Prop where
  pg : PySem.W.plainGet K C Str.empty = true
  hd : PySem.W.hasDictIn K C = true
  po : PySem.W.plainOver K C = true
  sa : PySem.W.findIn K (.ref C) "__setattr__" = some (some (.builtin "object.__setattr__"))
theorem Cls.get {K : PySem.W.Frag} {C : Addr} (c : Cls K C) (f : Str) : PySem.W.plainGet K C f = true := c.pg
section
variable {X : Cx} {pins : List (Addr × Obj)} {σ : St} {H : Hp} {s : Shared} {a C dx : Addr} {fs : List (Str × V)} {f : Str} {v : V} {A : Around} {E : Value → Shared → Prop}
end
section
variable {X : Cx} {o e value : Expr} {f : Str} {pos pos' tpos : Pos} {ta tv : TE}
end
section
variable {X : Cx} {pins : List (Addr × Obj)} {σ : St} {H : Hp} {s : Shared} {A : Around} {E : Value → Shared → Prop} {Q : Value → Shared → Prop} {c : Value} {b : Bool}
inductive TyOf (K : PySem.W.Frag) (H : Hp) : V → Value → Prop where
  | non : TyOf K H .non (.type "NoneType")
  | bl (x : Bool) : TyOf K H (.bl x) (.type "bool")
  | int (i : Int) : TyOf K H (.int i) (.type "int")
  | str (x : Str) : TyOf K H (.str x) (.type "str")
  | flt (x : UInt64) : TyOf K H (.flt x) (.type "float")
  | lst {a : Addr} {xs : List V} (e : H a = some (.lst xs)) : TyOf K H (.ref a) (.type "list")
  | frz {a : Addr} {o : Obj} {xs : List V} (e : H a = some (.frz o (.lst xs))) : TyOf K H (.ref a) (.type "list")
  | tup {a : Addr} {xs : List V} (e : H a = some (.tup xs)) : TyOf K H (.ref a) (.type "tuple")
  | dK {a : Addr} {kvs : List (Key × V)} (e : H a = some (.dK kvs)) : TyOf K H (.ref a) (.type "dict")
  | dT {a : Addr} {kvs : List (List Key × V)} (e : H a = some (.dT kvs)) : TyOf K H (.ref a) (.type "dict")
  | ins {a C dx : Addr} {fs : List (Str × V)} (e : H a = some (.ins C dx fs)) (cl : Cls K C) (ha : PySem.W.findIn K (.ref C) "__class__" = some (some (.builtin "object.__class__")))
      (hn : PySem.W.specialIn K (.builtin "object.__class__") "__get__" = some (some (.builtin "getset_descriptor.__get__"))) (htk : PySem.W.takesIn K (.builtin "object.__class__") = some true)
      (hm : PySem.W.mroIn K C (.type "object") = some true) : TyOf K H (.ref a) (.ref C)
theorem isinst_ok {x : V} {u t : Value} (I : Inv X pins σ H s) (rx : RelV x u) (ty : TyOf X.K H x t) (e : PySem.W.kitOne X.K t c = some b) (h : ∀ tk,Q (.bool b) { s with toks := tk }) :
    wpAny (model X.prog X.w) A (call (.builtin "isinstance") [u,c]) Q E s := by
  cases ty with
  | non => cases (show u = Value.none from rx); exact PySem.W.kia_one PySem.W.kitx_none I.kIn True.intro e (fun z => nomatch z) h
  | bl y => cases (show u = Value.bool y from rx); exact PySem.W.kia_one PySem.W.kitx_bool I.kIn True.intro e (fun z => nomatch z) h
  | int i => obtain ⟨t,q⟩ := (show ∃ t,u = Value.int i t from rx); cases q; exact PySem.W.kia_one PySem.W.kitx_int I.kIn True.intro e (fun z => nomatch z) h
  | str y => obtain ⟨t,q⟩ := (show ∃ t,u = Value.str y t from rx); cases q; exact PySem.W.kia_one PySem.W.kitx_str I.kIn True.intro e (fun z => nomatch z) h
  | flt y => obtain ⟨t,q⟩ := (show ∃ t,u = Value.float y t from rx); cases q; exact PySem.W.kia_one PySem.W.kitx_float I.kIn True.intro e (fun z => nomatch z) h
  | @lst a xs ea =>
    cases (show u = Value.ref a from rx)
    obtain ⟨_,_,n,_,h1⟩ := (show ObjOk X.prog X.w H s.heap a (.lst xs) from I.hok a _ ea)
    exact PySem.W.kia_one PySem.W.kitx_list I.kIn ⟨_,h1,rfl⟩ e (fun z => nomatch z) h
  | @frz a ob xs ea =>
    cases (show u = Value.ref a from rx)
    obtain ⟨_,_,_,n,_,h1⟩ := (show ObjOk X.prog X.w H s.heap a (.frz ob (.lst xs)) from I.hok a _ ea)
    exact PySem.W.kia_one PySem.W.kitx_list I.kIn ⟨_,h1,rfl⟩ e (fun z => nomatch z) h
  | @tup a xs ea =>
    cases (show u = Value.ref a from rx)
    obtain ⟨_,_,_,p⟩ := (show ObjOk X.prog X.w H s.heap a (.tup xs) from I.hok a _ ea)
    obtain ⟨o,h1,h2,_⟩ := p
    exact PySem.W.kia_one PySem.W.kitx_tuple I.kIn ⟨o,h1,h2⟩ e (fun z => nomatch z) h
  | @dK a kvs ea =>
    cases (show u = Value.ref a from rx)
    obtain ⟨_,_,vs,_,p⟩ := (show ObjOk X.prog X.w H s.heap a (.dK kvs) from I.hok a _ ea)
    obtain ⟨o,es,ep,h1,h2,_⟩ := p
    exact PySem.W.kia_one PySem.W.kitx_dict I.kIn ⟨o,h1,h2.1⟩ e (fun z => nomatch z) h
  | @dT a kvs ea =>
    cases (show u = Value.ref a from rx)
    obtain ⟨_,_,xs,_,o,es,ep,h1,h2,_⟩ := (show ObjOk X.prog X.w H s.heap a (.dT kvs) from I.hok a _ ea)
    exact PySem.W.kia_one PySem.W.kitx_dict I.kIn ⟨o,h1,h2.1⟩ e (fun z => nomatch z) h
  | @ins a C dx fs ea cl ha hn htk hm =>
    cases (show u = Value.ref a from rx)
    obtain ⟨mA,O,_⟩ := ins_get I.hok ea
    obtain ⟨od,J,_⟩ := O.look
    exact PySem.W.kia_one (PySem.W.kitx_own (cl.get _) cl.hd ha hn htk hm) I.kIn J e (fun z => nomatch z) h
end
end L2
namespace L2
open PySem PySem.Spec PyProof.Rows
structure Room (k : Nat) (A : Around) : Prop where
  hd : A.handled = none
  dp : A.depth + 3 * k + 5 < recursionLimit
  un : A.units + 16 * k + 200 < cLine
theorem Room.mono {j k : Nat} {A : Around} (r : Room k A) (h : j ≤ k) : Room j A := ⟨r.hd,by have := r.dp; omega,by have := r.un; omega⟩
theorem Room.deeper {k : Nat} {A : Around} (r : Room (k + 1) A) (env : Env) : Room k (A.deeper env) :=
  ⟨r.hd,by have := r.dp; show A.depth + 1 + 3 * k + 5 < _; omega,by have := r.un; show A.units + 3 + 16 * k + 200 < _; omega⟩
theorem Room.depth {k : Nat} {A : Around} (r : Room k A) : A.depth < recursionLimit := by have := r.dp; omega
def tNil : TA := fun _ H Q => Q [] H
def tCons (ta : TE) (tr : TA) : TA := fun σ H Q => ta σ H fun x H1 => tr σ H1 fun xs H2 => Q (x :: xs) H2
section
variable {X : Cx} {e : Expr} {es : List Expr} {te : TE} {t : TA} {pos : Pos}
theorem pa_nil : PA X [] tNil := fun _ _ _ _ H Q I h => Calls.spliced_nil ⟨[],H,I,.nil,h⟩
theorem pa_cons (ha : PE X e te) (hr : PA X es t) (hs : starEach (e :: es) X.env = (false,eval e X.env) :: starEach es X.env := by rfl) : PA X (e :: es) (tCons te t) := by
  intro pos pins s σ H Q I h
  rw [hs]
  show wpAny _ _ (spliced ((false,eval e X.env) :: backTo pos (starEach es X.env))) _ _ s
  refine Calls.spliced_cons (thn (ha pins s σ H _ I h) fun u s1 ⟨x,H1,I1,r1,q1⟩ => ?_)
  exact thn (hr pos pins s1 σ H1 _ I1 q1) fun us s2 ⟨xs,H2,I2,r2,q2⟩ => ⟨x :: xs,H2,I2,.cons r1 r2,q2⟩
end
abbrev Sp := List V → Hp → VK → XK → Prop
abbrev CXT := List Env → Hp → Shared → XK → Value → Shared → Prop
structure Env0 (P : Program) (w : World) (K : PySem.W.Frag) (mg : Str → Option Value) (base : Heap) (A : Around) (outer : List Env) (s : Shared) (H : Hp) : Prop where
  frames : A.frames = some outer
  mod : Mod K mg base
  bs : ∀ b o,base.get? b = some o → s.heap.get? b = some o ∧ H b = none
  bsz : base.objs.size ≤ s.heap.objs.size
  funs : s.heap.FunFrames base outer
  frf : ∀ b ∈ frs outer,H b = none
  hok : HOk P w H s.heap
  bare : AllBare s.gens
def CE (outer : List Env) (P : Program) (w : World) (H : Hp) (s : Shared) (Q : VK) (u : Value) (s' : Shared) : Prop :=
  ∃ v H',s'.os = s.os ∧ AllBare s'.gens ∧ Un (frs outer) [] H H' s.heap s'.heap ∧ HOk P w H' s'.heap ∧ RelV v u ∧ Q v H'
def CR (CX : CXT) (outer : List Env) (P : Program) (w : World) (H : Hp) (s : Shared) (Q : VK) (E : XK) (r : Result) (s' : Shared) : Prop :=
  match r with
  | .ok (.ret u) => CE outer P w H s Q u s'
  | .ok _ => False
  | .error e => CX outer H s E e s'
structure FnOk (P : Program) (w : World) (K : PySem.W.Frag) (mg : Str → Option Value) (base : Heap) (CX : CXT) (k : Nat) (f : Addr) (fd : FuncData) (ps : List Str) (sp : Sp) : Prop where
  len : ∀ vs H Q E,sp vs H Q E → vs.length = ps.length
  run : ∀ (A : Around) (outer : List Env) (s : Shared) (H : Hp) (args : Args) (us : List Value) (vs : List V) (Q : VK) (E : XK),Room k A → Env0 P w K mg base A outer s H → BindsTo s fd args (ps.zip us) → Vals vs us → sp vs H Q E →
    codeAny (model P w) A (.call (.ref f) args) (CR CX outer P w H s Q E) s
section
variable {X : Cx} {pins : List (Addr × Obj)} {σ : St} {H : Hp} {s s' : Shared}
theorem Inv.env0 (I : Inv X pins σ H s) : Env0 X.prog X.w X.K X.mg X.base X.A X.stack s H :=
  ⟨I.ok.frames,I.ok.mod,I.bs,Nat.le_trans I.ok.bsz I.sz,I.stack,I.stkFree,I.hok,I.bare⟩
theorem Inv.after {Q : VK} {u : Value} (I : Inv X pins σ H s) (h : CE X.stack X.prog X.w H s Q u s') : EP X pins σ Q u s' := by
  obtain ⟨v,H',os,bare,un,hok,r,q⟩ := h
  obtain ⟨hh,g,d,t,os'⟩ := s'
  obtain rfl : os' = s.os := os
  exact ⟨v,H',I.call (h' := hh) (g' := g) (d' := d) (t' := t) (ch := []) un hok bare (fun b z => absurd z (by simp)),r,q⟩
end
def tCall (sp : Sp) (dvs : List V) (E : XK) (t : TA) : TE := fun σ H Q => t σ H fun vs H1 => sp (vs ++ dvs) H1 Q E
def Binds (K : PySem.W.Frag) (fd : FuncData) (ps : List Str) (ds : List Value) : Prop :=
  ∀ (s : Shared) (us : List Value),K.In s.heap → (us ++ ds).length = ps.length → BindsTo s fd ⟨us,[]⟩ (ps.zip (us ++ ds))
theorem Binds.all {K : PySem.W.Frag} {fd : FuncData} {ps : List Str} (h : ∀ us : List Value,us.length = ps.length → bindArgs fd ⟨us,[]⟩ = pure (ps.zip us)) : Binds K fd ps [] := fun s us _ hl => by
  rw [List.append_nil] at hl ⊢
  exact .of_eq (h us hl)
def Passes (CX : CXT) (X : Cx) (E : XK) : Prop := ∀ (pins : List (Addr × Obj)) (σ : St) (H : Hp) (s : Shared) (e : Value) (s' : Shared),Inv X pins σ H s → CX X.stack H s E e s' → X.xe e s'
section
variable {X : Cx} {CX : CXT} {k : Nat} {f C : Addr} {fd : FuncData} {ps : List Str} {sp : Sp} {dvs : List V} {ds : List Value} {E : XK} {x m : Str} {p pos apos : Pos} {e o : Expr} {es : List Expr} {ta : TE} {t : TA}
theorem run_fn {pins : List (Addr × Obj)} {σ : St} {H : Hp} {s : Shared} {Q : VK} {us : List Value} {vs : List V} (F : FnOk X.prog X.w X.K X.mg X.base CX k f fd ps sp) (hr : Room k X.A) (hb : Binds X.K fd ps ds) (hd : Vals dvs ds) (hx : Passes CX X E)
    (I : Inv X pins σ H s) (r : Vals vs us) (h : sp (vs ++ dvs) H Q E) : wpAny (model X.prog X.w) X.A (call (.ref f) us) (EP X pins σ Q) X.xe s := by
  have r2 : Vals (vs ++ dvs) (us ++ ds) := r.append hd
  have hl : (us ++ ds).length = ps.length := by rw [← r2.length]; exact F.len _ _ _ _ h
  refine wpAny_call (codeAny_mono (F.run X.A X.stack s H ⟨us,[]⟩ (us ++ ds) (vs ++ dvs) Q E hr I.env0 (hb s us I.kIn hl) r2 h) fun r s' hq => ?_)
  cases r with
  | error e => exact hx pins σ H s e s' I hq
  | ok fl =>
    cases fl with
    | ret u => exact I.after hq
    | next => exact False.elim hq
    | brk => exact False.elim hq
    | cont => exact False.elim hq
theorem pe_call (F : FnOk X.prog X.w X.K X.mg X.base CX k f fd ps sp) (hr : Room k X.A) (hg : Gl X x) (hm : X.mg x = some (.ref f)) (hk : PySem.W.keepIn X.K (.ref f) = true) (hb : Binds X.K fd ps ds) (hd : Vals dvs ds) (hx : Passes CX X E)
    (ha : PA X (e :: es) t) (hdb : (x == ("__debug__" : Str)) = false := by decide) (he : starEach (e :: es) X.env = (false,eval e X.env) :: starEach es X.env := by rfl) (hpl : (backTo pos (starEach es X.env)).any (·.1) = false := by rfl) :
    PE X (.Call (.Name x p) (e :: es) [] pos) (tCall sp dvs E t) := by
  intro pins s σ H Q I h
  refine wpAny_Call_Name_kw (ld_glob I hg hm ?_ hdb)
  refine PySem.W.callWith_K (h₀ := X.base) I.ok.mod.kin hk (thn (ha pos pins s σ H _ I h) fun us s1 ⟨vs,H1,I1,r,q⟩ => ⟨I1.kIn,?_⟩) he hpl
  exact run_fn F hr hb hd hx I1 r q
end
section
variable {X : Cx} {CX : CXT} {k : Nat} {f C : Addr} {fd : FuncData} {ps ks : List Str} {sp : Sp} {E : XK} {x m : Str} {p pos apos kpos : Pos} {e o : Expr} {es : List Expr} {kws : List Keyword} {te ta : TE} {t tk : TA} {nm : Option Str}
variable {g : List Value → List Value → List Value} {gV : List V → List V → List V}
end
structure FnScope (N P : List Str) (sc : Scope) : Prop where
  kind : sc.kind = .function
  co : sc.isCoroutine = false
  gen : sc.isGenerator = false
  nd : N.Nodup
  pre : N.take P.length = P
  par : ∀ x ∈ P,sc.names.lookup x = some .local ∨ sc.names.lookup x = some .cell
  nofree : ∀ y ∈ sc.names,y.2 ≠ .free
theorem bindL_out {kindOf : Str → Option NameKind} {x : Str} : ∀ {binds : List (Str × Value)} {m : Str → Option Value},(∀ v,(x,v) ∉ binds) → bindL kindOf binds m x = m x
  | [],_,_ => rfl
  | (n,v) :: r,m,h => by
    unfold bindL
    rw [bindL_out fun w hw => h w (List.mem_cons_of_mem _ hw)]
    split
    · have : x ≠ n := by rintro rfl; exact h v List.mem_cons_self
      simp [this]
    · rfl
theorem bindC_out {kindOf : Str → Option NameKind} {x : Str} : ∀ {binds : List (Str × Value)} {m : Str → Option Value},(∀ v,(x,v) ∉ binds) → bindC kindOf binds m x = m x
  | [],_,_ => rfl
  | (n,v) :: r,m,h => by
    unfold bindC
    rw [bindC_out fun w hw => h w (List.mem_cons_of_mem _ hw)]
    split
    · rfl
    · have : x ≠ n := by rintro rfl; exact h v List.mem_cons_self
      simp [this]
theorem bindL_get {kindOf : Str → Option NameKind} {x : Str} {v : Value} : ∀ {P : List Str} {vs : List Value} {i : Nat} {m : Str → Option Value},P.Nodup → P[i]? = some x → vs[i]? = some v → kindOf x = some .local →
    bindL kindOf (P.zip vs) m x = some v
  | [],_,_,_,_,h,_,_ => by simp at h
  | _ :: _,[],_,_,_,_,h,_ => by simp at h
  | p :: P,w :: vs,0,m,nd,h1,h2,hk => by
    simp at h1 h2; subst h1; subst h2
    show bindL kindOf ((p,w) :: P.zip vs) m p = _
    unfold bindL
    rw [bindL_out fun v hv => (List.nodup_cons.mp nd).1 (List.of_mem_zip hv).1,if_pos hk]
    simp
  | p :: P,w :: vs,i + 1,m,nd,h1,h2,hk => by
    show bindL kindOf ((p,w) :: P.zip vs) m x = _
    unfold bindL
    exact bindL_get (i := i) (List.nodup_cons.mp nd).2 (by simpa using h1) (by simpa using h2) hk
theorem bindC_get {kindOf : Str → Option NameKind} {x : Str} {v : Value} : ∀ {P : List Str} {vs : List Value} {i : Nat} {m : Str → Option Value},P.Nodup → P[i]? = some x → vs[i]? = some v → kindOf x ≠ some .local →
    bindC kindOf (P.zip vs) m x = some v
  | [],_,_,_,_,h,_,_ => by simp at h
  | _ :: _,[],_,_,_,_,h,_ => by simp at h
  | p :: P,w :: vs,0,m,nd,h1,h2,hk => by
    simp at h1 h2; subst h1; subst h2
    show bindC kindOf ((p,w) :: P.zip vs) m p = _
    unfold bindC
    rw [bindC_out fun v hv => (List.nodup_cons.mp nd).1 (List.of_mem_zip hv).1,if_neg hk]
    simp
  | p :: P,w :: vs,i + 1,m,nd,h1,h2,hk => by
    show bindC kindOf ((p,w) :: P.zip vs) m x = _
    unfold bindC
    exact bindC_get (i := i) (List.nodup_cons.mp nd).2 (by simpa using h1) (by simpa using h2) hk
def start (N : List Str) (vs : List V) : St := vs.map some ++ List.replicate (N.length - vs.length) none
def cxOf (CX : CXT) (P : Program) (w : World) (K : PySem.W.Frag) (mg : Str → Option Value) (base : Heap) (N : List Str) (qual : Str) (scope : Scope) (f : Addr) (cd : Value) (A : Around) (outer : List Env) (s : Shared) (H : Hp) (E : XK) : Cx where
  prog := P
  w := w
  K := K
  mg := mg
  base := base
  A := A.deeper (envOfC qual scope s.heap.objs.size f cd)
  N := N
  s₀ := s
  H₀ := H
  env := envOfC qual scope s.heap.objs.size f cd
  outer := outer
  stack := envOfC qual scope s.heap.objs.size f cd :: outer
  ex := []
  calm := true
  fn := fun _ => true
  pn := []
  xe := fun e s' => wpAny (model P w) (A.deeper (envOfC qual scope s.heap.objs.size f cd)) (leaving (envOfC qual scope s.heap.objs.size f cd) e) (fun _ s'' => CX outer H s E e s'') (fun e' s'' => CX outer H s E e' s'') s'
theorem cell_has {sc : Scope} {n : Nat} {x : Str} (h : sc.names.lookup x = some .cell) : ∃ c,(cellsFrom n sc.names []).lookup x = some c := by
  have q := PySem.W.cellsFrom_some sc.names n [] (.inl h)
  exact Option.isSome_iff_exists.mp q
theorem inv_start {CX : CXT} {P : Program} {w : World} {K : PySem.W.Frag} {mg : Str → Option Value} {base : Heap} {N ps : List Str} {qual : Str} {scope : Scope} {f : Addr} {cd : Value} {A : Around} {outer : List Env} {s s1 : Shared} {H : Hp} {E : XK} {us : List Value} {vs : List V}
    (S : FnScope N ps scope) (hd : A.handled = none) (e0 : Env0 P w K mg base A outer s H) (hl : vs.length = ps.length) (r : Vals vs us)
    (x : InCallC s s.heap.objs.size (bindL (envOfC qual scope s.heap.objs.size f cd).kindOf (ps.zip us) fun _ => none) (cellsFrom (s.heap.objs.size + 1) scope.names []) (bindC (envOfC qual scope s.heap.objs.size f cd).kindOf (ps.zip us) fun _ => none) s1) :
    Inv (cxOf CX P w K mg base N qual scope f cd A outer s H E) [] (start N vs) H s1 := by
  have hpl : ps.length ≤ N.length := by have := congrArg List.length S.pre; rw [List.length_take] at this; omega
  obtain ⟨h1,tk,rfl,hk⟩ := x.done
  have noA : ∀ b : Addr,b ∉ (cxOf CX P w K mg base N qual scope f cd A outer s H E).ex := fun b z => absurd (show b ∈ ([] : List Addr) from z) (by simp)
  refine ⟨⟨e0.mod,S.kind,rfl,rfl,Nat.le_refl _,fun y z c h1 h2 => ?_,fun y hy => ?_,fun y c _ h => ?_,fun _ => hd,Around.frames_deeper e0.frames,.inr ⟨rfl,rfl⟩,fun b z => absurd z (noA b),e0.bs,e0.bsz,fun b _ _ => noA b,fun b z => absurd z (noA b),e0.funs,e0.frf⟩,
    rfl,e0.bare,Un.kept hk,⟨_,x.toInCall.ns,fun i y v h1 h2 h3 => ?_⟩,fun y c h => ⟨_,x.cell y c h⟩,e0.hok.fresh (Nat.le_refl _),fun y c h => ?_,fun p hp => absurd (show p ∈ ([] : List (Addr × Obj)) from hp) (by simp),e0.hok.kept hk,?_⟩
  · exact name_of_addr x.apart (PySem.mem_of_lookup h1) (PySem.mem_of_lookup h2)
  · have hy : scope.names.lookup y = some .cell ∨ scope.names.lookup y = some .free := hy
    rcases hy with hy | hy
    · exact cell_has hy
    · exact absurd rfl (S.nofree _ (PySem.mem_of_lookup hy))
  · exact Nat.le_of_lt (x.above y c (PySem.mem_of_lookup h))
  · have hi : i < vs.length := by
      unfold start at h2
      by_cases hi : i < vs.length
      · exact hi
      · rw [List.getElem?_append_right (by simpa using hi)] at h2
        rw [List.getElem?_replicate] at h2
        split at h2 <;> cases h2
    have ha : vs[i]? = some v := by
      unfold start at h2
      rw [List.getElem?_append_left (by simpa using hi),List.getElem?_map] at h2
      cases e : vs[i]? with
      | none => rw [e] at h2; cases h2
      | some a => rw [e] at h2; cases h2; rfl
    obtain ⟨u,hu,rv⟩ := r.get ha
    have hp : ps[i]? = some y := by
      rw [← S.pre,List.getElem?_take_of_lt (by omega)]; exact h1
    have ndP : ps.Nodup := by rw [← S.pre]; exact S.nd.sublist (List.take_sublist _ _)
    refine ⟨u,rv,?_⟩
    rcases S.par y (List.mem_of_getElem? hp) with k | k
    · exact .inl ⟨k,bindL_get ndP hp hu k⟩
    · obtain ⟨c,e⟩ := cell_has (n := s.heap.objs.size + 1) k
      refine .inr ⟨.inl k,c,e,?_⟩
      have q := x.cell y c e
      rw [bindC_get ndP hp hu (by show scope.names.lookup y ≠ _; rw [k]; decide)] at q
      exact q
  · exact e0.hok.fresh (Nat.le_of_lt (x.above y c (PySem.mem_of_lookup h)))
  · unfold start
    show _ = N.length
    rw [List.length_append,List.length_map,List.length_replicate]
    omega
theorem fn_of {CX : CXT} {P : Program} {w : World} {K : PySem.W.Frag} {mg : Str → Option Value} {base : Heap} {k : Nat} {f : Addr} {name qual : Str} {params : Arguments} {body : List Stmt} {scope : Scope} {dV kV doc pm cdv ct oc : Value} {an od : Option Addr}
    {osl : Array (Option Value)} {N ps : List Str} {sp : Sp} (lk : K.lookup f = some ⟨oc,od,.func (PySem.W.fnOf name qual params body scope dV kV doc pm an cdv ct),osl⟩) (hcd : PySem.W.codeIn K cdv qual = true) (S : FnScope N ps scope)
    (len : ∀ vs H Q E,sp vs H Q E → vs.length = ps.length)
    (hbody : ∀ (A : Around) (outer : List Env) (s : Shared) (H : Hp) (vs : List V) (Q : VK) (E : XK),Room k (A.deeper (envOfC qual scope s.heap.objs.size f cdv)) → sp vs H Q E →
      ∃ t,PSs (cxOf CX P w K mg base N qual scope f cdv A outer s H E) body t ∧ t { nx := fun _ H' => Q .non H',rt := Q } (start N vs) H) :
    FnOk P w K mg base CX (k + 1) f (PySem.W.fnOf name qual params body scope dV kV doc pm an cdv ct) ps sp := by
  refine ⟨len,fun A outer s H args us vs Q E hr e0 hb r hsp => ?_⟩
  have hl := len _ _ _ _ hsp
  have KX : K.In s.heap := e0.mod.kin.keeps fun b o e => (e0.bs b o e).1
  have lim : s.heap.NoLimit := e0.mod.nolimit.keeps fun b o e => (e0.bs b o e).1
  have hkind : ∀ y ∈ ps.zip us,scope.names.lookup y.1 = some .local ∨ (scope.names.lookup y.1 = some .cell ∧ ((cellsFrom (s.heap.objs.size + 1) scope.names []).lookup y.1).isSome = true) := fun ⟨n,v⟩ hy => by
    rcases S.par n (List.of_mem_zip hy).1 with q | q
    · exact .inl q
    · exact .inr ⟨q,PySem.W.cellsFrom_some _ _ _ (.inl q)⟩
  refine codeAny_call_function hr.depth (KX _ _ lk) rfl S.co S.gen rfl (PySem.W.codeRec_of KX hcd) (hb _ _ _ _ ?_)
  refine wpAny_newFunctionEnv_cells S.kind hkind fun env he s1 x => ?_
  subst he
  refine ⟨lim.keeps x.toInCall.keep,codeAny_func ?_⟩
  obtain ⟨t,ht,hq⟩ := hbody A outer s H vs Q E (hr.deeper _) hsp
  have I : Inv (cxOf CX P w K mg base N qual scope f cdv A outer s H E) [] (start N vs) H s1 := inv_start S hr.hd e0 hl r x
  refine wpAny_mono (ht [] s1 (start N vs) H _ I hq) (fun fl s' hs => ?_) fun e s' hs => hs
  have fin : ∀ {σ' : St} {H' : Hp} {v : V} {u : Value},Inv (cxOf CX P w K mg base N qual scope f cdv A outer s H E) [] σ' H' s' → RelV v u → Q v H' → CE outer P w H s Q u s' :=
    fun {σ' H' v u} J rv q => ⟨v,H',J.os,J.bare,J.base,J.hok,rv,q⟩
  cases fl with
  | ret u =>
    obtain ⟨v,σ',H',J,rv,q⟩ := hs
    exact fin J rv q
  | next =>
    obtain ⟨σ',H',J,q⟩ := hs
    exact fin (v := V.non) (u := Value.none) J rfl q
  | brk =>
    obtain ⟨_,_,_,q⟩ := hs
    exact False.elim q
  | cont =>
    obtain ⟨_,_,_,q⟩ := hs
    exact False.elim q
end L2
namespace L2
open PySem PySem.Spec PyProof.Rows
section
variable {X : Cx} {x : Str} {p pos : Pos} {e : Expr} {es : List Expr} {t : TA} {id T : String} {r : List V → Hp → VK → Prop}
def tCB (r : List V → Hp → VK → Prop) (t : TA) : TE := fun σ H Q => t σ H fun vs H1 => r vs H1 Q
theorem pe_callB (hc : CallR X (.builtin id) r) (hg : Gl X x) (hm : X.mg x = none) (hv : bootBuiltins x = some (.builtin id)) (ha : PA X (e :: es) t) (hn : x ≠ "__name__" := by decide) (hdb : (x == ("__debug__" : Str)) = false := by decide)
    (he : starEach (e :: es) X.env = (false,eval e X.env) :: starEach es X.env := by rfl) (hpl : (backTo pos (starEach es X.env)).any (·.1) = false := by rfl) : PE X (.Call (.Name x p) (e :: es) [] pos) (tCB r t) := by
  intro pins s σ H Q I h
  refine wpAny_Call_Name_kw (ld_blt I hg hm hv ?_ hn hdb)
  exact PyProof.Rows.callWith_builtin1 (thn (ha pos pins s σ H _ I h) fun us s1 ⟨vs,H1,I1,r1,q1⟩ => hc pins s1 σ H1 vs us Q I1 r1 q1) he hpl
theorem pe_callTy (hc : CallR X (.type T) r) (hg : Gl X x) (hm : X.mg x = none) (hv : bootBuiltins x = some (.type T)) (ha : PA X (e :: es) t) (hn : x ≠ "__name__" := by decide) (hdb : (x == ("__debug__" : Str)) = false := by decide)
    (he : starEach (e :: es) X.env = (false,eval e X.env) :: starEach es X.env := by rfl) (hpl : (backTo pos (starEach es X.env)).any (·.1) = false := by rfl) : PE X (.Call (.Name x p) (e :: es) [] pos) (tCB r t) := by
  intro pins s σ H Q I h
  refine wpAny_Call_Name_kw (ld_blt I hg hm hv ?_ hn hdb)
  exact PyProof.Rows.callWith_type1 (thn (ha pos pins s σ H _ I h) fun us s1 ⟨vs,H1,I1,r1,q1⟩ => hc pins s1 σ H1 vs us Q I1 r1 q1) he hpl
end
end L2
namespace HT
open PySem PyProof.Rows
section
open PySem.SeqAt
open PySem.AutoSeq1 (wpAny_loadPart')
open PySem.MeetsSeq PySem.MeetsSeq2 PySem.MeetsSeq3
end
section
variable {prog : Program} {w : World} {A : Around} {E : Value → Shared → Prop} {s : Shared}
def sIx (n d : Nat) : Option Int → Nat
  | none => d
  | some v => if v < 0 then (v + (n : Int)).toNat else min v.toNat n
end
end HT
namespace L2
open PySem PySem.Spec PyProof.Rows
abbrev TO := St → Hp → (Option Int → Hp → Prop) → Prop
def PO (X : Cx) (e : Option Expr) (t : TO) : Prop :=
  ∀ (pins : List (Addr × Obj)) (s : Shared) (σ : St) (H : Hp) (Q : Option Int → Hp → Prop),Inv X pins σ H s → t σ H Q →
    wpAny (model X.prog X.w) X.A (evalPart e X.env) (fun u s' => ∃ o H',Inv X pins σ H' s' ∧ IsPart u o ∧ Q o H') X.xe s
def tNoPart : TO := fun _ H Q => Q none H
def tPart (t : TE) : TO := fun σ H Q => t σ H fun x H1 => ∃ i,x = .int i ∧ Q (some i) H1
section
variable {X : Cx} {e : Expr} {te : TE} {lo hi : Option Expr} {tl th : TO} {pos p2 : Pos}
theorem po_none : PO X none tNoPart := by
  intro pins s σ H Q I h
  rw [evalPart_none]
  exact wpAny_pure ⟨none,H,I,.none,h⟩
theorem po_some (h : PE X e te) : PO X (some e) (tPart te) := by
  intro pins s σ H Q I hw
  rw [evalPart_some]
  refine thn (h pins s σ H _ I hw) fun u s1 ⟨x,H1,I1,r1,q1⟩ => ?_
  obtain ⟨i,rfl,q⟩ := q1
  obtain ⟨t,rfl⟩ := r1
  exact ⟨some i,H1,I1,.int i t,q⟩
def SlR (X : Cx) (r : V → Option Int → Option Int → Hp → VK → Prop) : Prop :=
  ∀ (pins : List (Addr × Obj)) (s : Shared) (σ : St) (H : Hp) (x : V) (v vl vu : Value) (lo hi : Option Int) (sl : Addr) (Q : VK),Inv X pins σ H s → RelV x v → s.heap.IsSliceOf sl vl vu .none → IsPart vl lo → IsPart vu hi → r x lo hi H Q →
    ∃ T id,typeLookup (.type T) "__getitem__" = pure (some (.builtin id)) ∧ s.TypeIs v T ∧ wpAny (model X.prog X.w) X.A (getItem v (.ref sl)) (EP X pins σ Q) X.xe s
def tSl (r : V → Option Int → Option Int → Hp → VK → Prop) (te : TE) (tl th : TO) : TE := fun σ H Q => te σ H fun x H1 => tl σ H1 fun l H2 => th σ H2 fun u H3 => r x l u H3 Q
theorem pe_slice {r : V → Option Int → Option Int → Hp → VK → Prop} (hr : SlR X r) (he : PE X e te) (hl : PO X lo tl) (hu : PO X hi th) : PE X (.Subscript e (.Slice lo hi none p2) pos) (tSl r te tl th) := by
  intro pins s σ H Q I h
  refine Subscript_ (thn (he pins s σ H _ I h) fun v s1 ⟨x,H1,I1,r1,q1⟩ => ?_)
  refine wpAny_Slice (thn (hl pins s1 σ H1 _ I1 q1) fun vl s2 ⟨l,H2,I2,pl,q2⟩ => thn (hu pins s2 σ H2 _ I2 q2) fun vu s3 ⟨u,H3,I3,pu,q3⟩ => ?_)
  rw [evalPart_none]
  refine wpAny_pure ?_
  have I4 : Inv X pins σ H3 { s3 with heap := s3.heap.push { cls := .type "slice",data := .fields #[vl,vu,.none] } } := I3.kept (t' := s3.toks) fun b ob q => Heap.get?_push_of_some _ q
  obtain ⟨T,id,hT,ht,hg⟩ := hr pins { s3 with heap := s3.heap.push { cls := .type "slice",data := .fields #[vl,vu,.none] } } σ H3 x v vl vu l u s3.heap.objs.size Q I4 r1 (Heap.IsSliceOf.new ..) pl pu q3
  show wpAny (model X.prog X.w) X.A (subscriptTail e (.Slice lo hi none p2) v (.ref s3.heap.objs.size)) (EP X pins σ Q) X.xe { s3 with heap := s3.heap.push { cls := .type "slice",data := .fields #[vl,vu,.none] } }
  exact tail_any (ops := [.ref s3.heap.objs.size,v]) ht hT hg (by with_unfolding_all rfl)
def cutV (xs : List V) (lo hi : Option Int) : List V := (xs.drop (HT.sIx xs.length 0 lo)).take (HT.sIx xs.length xs.length hi - HT.sIx xs.length 0 lo)
theorem cutV_length (xs : List V) (lo hi : Option Int) : (cutV xs lo hi).length ≤ xs.length := by
  unfold cutV
  rw [List.length_take,List.length_drop]
  omega
end
end L2
namespace L2
open PySem PySem.Spec PyProof.Rows
def ixN (n : Nat) (i : Int) : Option Nat := if 0 ≤ i then (if i < n then some i.toNat else none) else if -(n : Int) ≤ i then some (i + n).toNat else none
def atI {α : Type} (xs : List α) (i : Int) : Option α := (ixN xs.length i).bind fun j => xs[j]?
theorem ixN_seq {n : Nat} {i : Int} {j : Nat} (h : ixN n i = some j) : seqIndex? i n = some j ∧ j < n ∧ -(n : Int) ≤ i ∧ i < n := by
  unfold ixN at h
  by_cases h0 : 0 ≤ i
  · rw [if_pos h0] at h
    by_cases h1 : i < n
    · rw [if_pos h1] at h
      have e : i.toNat = j := Option.some.inj h
      exact ⟨by rw [seqIndex_of h0 h1,e],by omega,by omega,h1⟩
    · rw [if_neg h1] at h; cases h
  · rw [if_neg h0] at h
    by_cases h1 : -(n : Int) ≤ i
    · rw [if_pos h1] at h
      have e : (i + n).toNat = j := Option.some.inj h
      exact ⟨by rw [seqIndex_neg (by omega) h1,e],by omega,h1,by omega⟩
    · rw [if_neg h1] at h; cases h
theorem atI_get {α : Type} {xs : List α} {i : Int} {v : α} (h : atI xs i = some v) : ∃ j,seqIndex? i xs.length = some j ∧ xs[j]? = some v ∧ j < xs.length ∧ -(xs.length : Int) ≤ i ∧ i < xs.length := by
  unfold atI at h
  cases e : ixN xs.length i with
  | none => rw [e] at h; cases h
  | some j =>
    rw [e] at h
    obtain ⟨h1,h2,h3,h4⟩ := ixN_seq e
    exact ⟨j,h1,h,h2,h3,h4⟩
theorem atI_nat {α : Type} {xs : List α} {j : Nat} {v : α} (h : xs[j]? = some v) : atI xs (j : Int) = some v := by
  have hj : j < xs.length := (List.getElem?_eq_some_iff.mp h).1
  have e : ixN xs.length (j : Int) = some j := by
    unfold ixN
    rw [if_pos (by omega),if_pos (by omega)]; simp
  unfold atI; rw [e]; exact h
def PlainIx (b : Expr) : Prop := ∀ o i,subscripted b false o i = operate [o,i] (getItem o i)
def IxR (X : Cx) (r : R2) : Prop :=
  ∀ (value slice : Expr) (pins : List (Addr × Obj)) (s : Shared) (σ : St) (H : Hp) (x y : V) (v u : Value) (Q : VK),Inv X pins σ H s → RelV x v → RelV y u → r x y H Q →
    subscripted slice false v u = operate [v,u] (getItem v u) → wpAny (model X.prog X.w) X.A (subscriptTail value slice v u) (EP X pins σ Q) X.xe s
def MtR (X : Cx) (id : String) (r : V → List V → Hp → VK → Prop) : Prop :=
  ∀ (pins : List (Addr × Obj)) (s : Shared) (σ : St) (H : Hp) (x : V) (xs : List V) (v : Value) (us : List Value) (Q : VK),Inv X pins σ H s → RelV x v → Vals xs us → r x xs H Q →
    wpAny (model X.prog X.w) X.A (call (.builtin id) (v :: us)) (EP X pins σ Q) X.xe s
section
variable {X : Cx} {a b : Expr} {ta tb : TE} {pos : Pos}
theorem pe_ix {r : R2} (hr : IxR X r) (ha : PE X a ta) (hb : PE X b tb) (hs : PlainIx b) : PE X (.Subscript a b pos) (tOp r ta tb) := by
  intro pins s σ H Q I h
  exact Subscript_ (binT ha hb I h fun v u s2 x y H2 I2 rx ry q => hr a b pins s2 σ H2 x y v u Q I2 rx ry q (hs _ _))
def rIxL (K : PySem.W.Frag) : R2 := fun x y H Q => ∃ p xs i v,x = .ref p ∧ y = .int i ∧ SqL K H p xs ∧ atI xs i = some v ∧ Q v H
def rIxT (K : PySem.W.Frag) : R2 := fun x y H Q => ∃ p xs i v,x = .ref p ∧ y = .int i ∧ SqT K H p xs ∧ atI xs i = some v ∧ Q v H
def rIxS : R2 := fun x y H Q => ∃ z i c,x = .str z ∧ y = .int i ∧ z.length ≤ sizeLine ∧ atI z.cps.toList i = some c ∧ Q (.str ⟨#[c]⟩) H
theorem ix_list : IxR X (rIxL X.K) := by
  intro value slice pins s σ H x y v u Q I rx ry h hs
  obtain ⟨p,xs,i,z,rfl,rfl,hq,he,q⟩ := h
  cases rx
  obtain ⟨t,rfl⟩ := ry
  obtain ⟨its,r,pl,hz⟩ := I.list hq
  obtain ⟨j,h1,h2,h3,h4,h5⟩ := atI_get he
  obtain ⟨w,ew,rw'⟩ := r.get h2
  have hl := r.length
  have hn := line63
  have fin : EP X pins σ Q w s := ⟨z,H,I,rw',q⟩
  by_cases h0 : 0 ≤ i
  · have hj : i.toNat = j := by
      rw [seqIndex_of h0 h5] at h1
      exact Option.some.inj h1
    exact item_listR pl.isList h0 (by omega) (by rw [hj]; simpa using ew) fin hs
  · have hj : (i + (its.toArray.size : Int)).toNat = j := by
      rw [seqIndex_neg (by omega) h4] at h1
      rw [List.size_toArray,← hl]
      exact Option.some.inj h1
    exact subscriptTail_builtinR (x := w) pl.isList.typeIs slot_list_getitem.lookup
      (wpAny_getItem_list_neg (Q := fun r s' => r = w ∧ EP X pins σ Q r s') pl.isList (by omega) (by rw [List.size_toArray] <;> omega) (by omega) (by rw [hj]; simpa using ew) ⟨rfl,fin⟩) hs
theorem ix_tup : IxR X (rIxT X.K) := by
  intro value slice pins s σ H x y v u Q I rx ry h hs
  obtain ⟨p,xs,i,z,rfl,rfl,hq,he,q⟩ := h
  cases rx
  obtain ⟨t,rfl⟩ := ry
  obtain ⟨its,r,pl,hz⟩ := I.tuple hq
  obtain ⟨j,h1,h2,h3,h4,h5⟩ := atI_get he
  obtain ⟨w,ew,rw'⟩ := r.get h2
  have hl := r.length
  have hn := line63
  have fin : EP X pins σ Q w s := ⟨z,H,I,rw',q⟩
  exact subscriptTail_builtinR (x := w) pl.typeIs slot_tuple_getitem.lookup
    (getItem_tuple (j := j) (Q := fun r s' => r = w ∧ EP X pins σ Q r s') pl (by omega) (by omega) (by rw [List.size_toArray,← hl]; exact h1) (by simpa using ew) ⟨rfl,fin⟩) hs
theorem ix_str : IxR X rIxS := by
  intro value slice pins s σ H x y v u Q I rx ry h hs
  obtain ⟨z,i,c,rfl,rfl,hz,he,q⟩ := h
  obtain ⟨t,rfl⟩ := rx
  obtain ⟨t',rfl⟩ := ry
  obtain ⟨j,h1,h2,h3,h4,h5⟩ := atI_get he
  have hl : z.cps.toList.length = z.length := by simp [Str.length]
  rw [hl] at h1 h4 h5
  have hn := line63
  exact tail_any (typeIs_str s z t) slot_str_getitem.lookup (getItem_str (c := c) (by
    have e1 : decide (i < -(2 ^ 63 : Int)) = false := decide_eq_false (by omega)
    have e2 : decide (i ≥ 2 ^ 63) = false := decide_eq_false (by omega)
    rw [e1,e2,Bool.or_false]) (by rw [h1]; simpa using h2) ⟨.str ⟨#[c]⟩,H,I.tok _,⟨_,rfl⟩,q⟩) hs
theorem mapSeq_set (its : List Value) (n j : Nat) (u : Value) : Obj.mapSeq (·.setIfInBounds j u) { cls := .type "list",data := .seq its.toArray n } = { cls := .type "list",data := .seq (its.set j u).toArray n } := by
  simp [Obj.mapSeq]
theorem Inv.lst {pins : List (Addr × Obj)} {σ : St} {H : Hp} {s : Shared} {p : Addr} {xs : List V} (I : Inv X pins σ H s) (h : H p = some (.lst xs)) :
    ∃ (its : List Value) (n : Nat),Vals xs its ∧ s.heap.get? p = some { cls := .type "list",data := .seq its.toArray n } ∧ xs.length ≤ sizeLine := by
  obtain ⟨z,its,n,r,e⟩ := I.hok p _ h
  exact ⟨its,n,r,e,z⟩
theorem Inv.lstUpd {pins : List (Addr × Obj)} {σ : St} {H : Hp} {s : Shared} {p : Addr} {xs ys : List V} {its its' : List Value} {n n' : Nat} {f : Obj → Obj} (I : Inv X pins σ H s) (h : H p = some (.lst xs))
    (ho : s.heap.get? p = some { cls := .type "list",data := .seq its.toArray n }) (hf : f { cls := .type "list",data := .seq its.toArray n } = { cls := .type "list",data := .seq its'.toArray n' }) (r : Vals ys its') (hz : ys.length ≤ sizeLine) (t : Nat) :
    Inv X pins σ (upd H p (.lst ys)) { s with heap := s.heap.update p f,toks := t } := by
  have e : (s.heap.update p f).get? p = some { cls := .type "list",data := .seq its'.toArray n' } := by
    rw [Heap.get?_update_self f ho (by rw [hf] <;> rfl),hf]
  refine I.write (x := p) (e := p) (by rw [h]; trivial) (.inl rfl) (fun b u hb q => (Heap.get?_update_other _ _ (Ne.symm hb)).trans q) ⟨_,e⟩ ?_
  exact ⟨hz,its',n',r,e⟩
def rSetL : V → V → V → Hp → (Hp → Prop) → Prop := fun o i v H Q => ∃ p xs k j,o = .ref p ∧ i = .int k ∧ H p = some (.lst xs) ∧ ixN xs.length k = some j ∧ Q (upd H p (.lst (xs.set j v)))
theorem set_list : PSet X rSetL := by
  intro pins s σ H o i v ov iv u Q I ro ri rv h
  obtain ⟨p,xs,k,j,rfl,rfl,hp,hj,q⟩ := h
  cases ro
  obtain ⟨t,rfl⟩ := ri
  obtain ⟨its,n,r,ho,hz⟩ := I.lst hp
  obtain ⟨h1,h2,h3,h4⟩ := ixN_seq hj
  have hl := r.length
  have hn := line63
  have I' : Inv X pins σ (upd H p (.lst (xs.set j v))) { s with heap := s.heap.update p (Obj.mapSeq (·.setIfInBounds j u)) } :=
    I.lstUpd hp ho (mapSeq_set its n j u) (r.set rv j) (by rw [List.length_set]; exact hz) s.toks
  by_cases h0 : 0 ≤ k
  · have hk : k.toNat = j := by
      rw [seqIndex_of h0 h4] at h1
      exact Option.some.inj h1
    exact PySem.W.ki_setAt ho h0 (by omega) (by rw [List.size_toArray,← hl]; exact h4) (by rw [hk]; exact ⟨_,I',q⟩)
  · have hk : (k + (its.toArray.size : Int)).toNat = j := by
      rw [seqIndex_neg (by omega) h3] at h1
      rw [List.size_toArray,← hl]
      exact Option.some.inj h1
    exact PySem.W.ki_setBack ho (by omega) (by rw [List.size_toArray,← hl]; exact h3) (by omega) (by rw [hk]; exact ⟨_,I',q⟩)
theorem slice_bounds (lo hi : Option Int) (n : Nat) : (sliceBounds lo hi none n).1 = ((HT.sIx n 0 lo : Nat) : Int) ∧ (sliceBounds lo hi none n).2.1 = ((HT.sIx n n hi : Nat) : Int) ∧ (sliceBounds lo hi none n).2.2 = 1 := by
  refine ⟨?_,?_,rfl⟩
  · cases lo with
    | none => simp [sliceBounds,HT.sIx]
    | some i =>
      simp only [sliceBounds,HT.sIx,Option.getD_none,show (1 : Int) > 0 by decide,if_true]
      by_cases h : i < 0
      · simp only [h,if_true] <;> omega
      · simp only [h,if_false] <;> omega
  · cases hi with
    | none => simp [sliceBounds,HT.sIx]
    | some i =>
      simp only [sliceBounds,HT.sIx,Option.getD_none,show (1 : Int) > 0 by decide,if_true]
      by_cases h : i < 0
      · simp only [h,if_true] <;> omega
      · simp only [h,if_false] <;> omega
theorem slicePick_cut (its : List Value) (lo hi : Option Int) : slicePick its.toArray lo hi none = ((its.drop (HT.sIx its.length 0 lo)).take (HT.sIx its.length its.length hi - HT.sIx its.length 0 lo)).toArray := by
  obtain ⟨h1,h2,h3⟩ := slice_bounds lo hi its.toArray.size
  unfold slicePick
  rw [h1,h2,h3]
  simp only [sliceRange_one,pick_run,List.size_toArray] <;> rfl
def rSlL (K : PySem.W.Frag) : V → Option Int → Option Int → Hp → VK → Prop := fun x lo hi H Q => ∃ a xs,x = .ref a ∧ SqL K H a xs ∧ ∀ p,H p = none → Q (.ref p) (upd H p (.lst (cutV xs lo hi)))
theorem sl_list : SlR X (rSlL X.K) := by
  intro pins s σ H x v vl vu lo hi sl Q I rx hs pl pu h
  obtain ⟨a,xs,rfl,hx,q⟩ := h
  cases rx
  obtain ⟨its,r,ht,hz⟩ := I.list hx
  have hlen := r.length
  refine ⟨"list",_,slot_list_getitem.lookup,ht.isList.typeIs,?_⟩
  refine wpAny_getItem_list_slice ht.isList hs pl pu .none (by simp) ?_ (by rw [List.size_toArray] <;> omega)
  rw [slicePick_cut,← hlen]
  refine ⟨.ref s.heap.objs.size,_,I.laid (t' := s.toks) (o := .lst (cutV xs lo hi)) (fun b ob q => Heap.get?_push_of_some _ q) (Nat.le_refl _) ?_,rfl,q _ (I.hok.fresh (Nat.le_refl _))⟩
  exact ⟨Nat.le_trans (cutV_length xs lo hi) hz,_,0,(r.drop (HT.sIx xs.length 0 lo)).take (HT.sIx xs.length xs.length hi - HT.sIx xs.length 0 lo),Heap.get?_push_size _ rfl⟩
def flatV : V → Bool
  | .non => true
  | .bl _ => true
  | .int _ => true
  | .str _ => true
  | _ => false
def eqV : V → V → Bool
  | .non,.non => true
  | .bl a,.bl b => a == b
  | .bl a,.int b => (if a then 1 else 0) == b
  | .int a,.bl b => a == (if b then 1 else 0)
  | .int a,.int b => a == b
  | .str a,.str b => a == b
  | _,_ => false
theorem eqAt_V {A : Around} {s : Shared} {y x : V} {u v : Value} (ry : RelV y u) (rx : RelV x v) (fy : flatV y = true) (fx : flatV x = true) : SeqAt.EqAt A s u v (eqV y x) := by
  cases y with
  | non =>
    cases ry
    cases x with
    | non => cases rx; exact SeqAt.EqAt.same _
    | bl b => cases rx; exact SeqAt.EqAt.none_bool b
    | int b => obtain ⟨t,rfl⟩ := rx; exact SeqAt.EqAt.none_int b t
    | str b => obtain ⟨t,rfl⟩ := rx; exact SeqAt.EqAt.none_str b t
    | _ => exact absurd (show false = true from fx) Bool.false_ne_true
  | bl a =>
    cases ry
    cases x with
    | non => cases rx; exact SeqAt.EqAt.bool_none a
    | bl b => cases rx; exact SeqAt.EqAt.bool_bool a b
    | int b => obtain ⟨t,rfl⟩ := rx; exact SeqAt.EqAt.bool_int a b t
    | str b => obtain ⟨t,rfl⟩ := rx; exact SeqAt.EqAt.bool_str a b t
    | _ => exact absurd (show false = true from fx) Bool.false_ne_true
  | int a =>
    obtain ⟨t',rfl⟩ := ry
    cases x with
    | non => cases rx; exact SeqAt.EqAt.int_none a t'
    | bl b => cases rx; exact SeqAt.EqAt.int_bool a t' b
    | int b => obtain ⟨t,rfl⟩ := rx; exact SeqAt.EqAt.int_int a t' b t
    | str b => obtain ⟨t,rfl⟩ := rx; exact SeqAt.EqAt.int_str a t' b t
    | _ => exact absurd (show false = true from fx) Bool.false_ne_true
  | str a =>
    obtain ⟨t',rfl⟩ := ry
    cases x with
    | non => cases rx; exact SeqAt.EqAt.str_none a t'
    | bl b => cases rx; exact SeqAt.EqAt.str_bool a t' b
    | int b => obtain ⟨t,rfl⟩ := rx; exact SeqAt.EqAt.str_int a t' b t
    | str b => obtain ⟨t,rfl⟩ := rx; exact SeqAt.EqAt.str_str a t' b t
    | _ => exact absurd (show false = true from fx) Bool.false_ne_true
  | _ => exact absurd (show false = true from fy) Bool.false_ne_true
def eqU (x : V) (u : Value) : Bool := match u with
  | .none => eqV .non x
  | .bool b => eqV (.bl b) x
  | .int i _ => eqV (.int i) x
  | .str z _ => eqV (.str z) x
  | _ => false
theorem eqU_of {x y : V} {u : Value} (r : RelV y u) (f : flatV y = true) : eqU x u = eqV y x := by
  cases y with
  | non => cases r; rfl
  | bl b => cases r; rfl
  | int i => obtain ⟨t,rfl⟩ := r; rfl
  | str z => obtain ⟨t,rfl⟩ := r; rfl
  | _ => exact absurd (show false = true from f) Bool.false_ne_true
theorem any_eqU {x : V} : ∀ {xs : List V} {us : List Value},Vals xs us → xs.all flatV = true → us.any (eqU x) = xs.any fun y => eqV y x
  | _,_,.nil,_ => rfl
  | y :: xs,u :: us,.cons r t,f => by
    rw [List.all_cons,Bool.and_eq_true] at f
    rw [List.any_cons,List.any_cons,eqU_of r f.1,any_eqU t f.2]
theorem mem_eqAt {A : Around} {s : Shared} {x : V} {v : Value} (rx : RelV x v) (fx : flatV x = true) : ∀ {xs : List V} {us : List Value},Vals xs us → xs.all flatV = true → ∀ u ∈ us,SeqAt.EqAt A s u v (eqU x u)
  | _,_,.nil,_ => fun u hu => by cases hu
  | y :: xs,u :: us,.cons r t,f => fun u' hu => by
    rw [List.all_cons,Bool.and_eq_true] at f
    rcases List.mem_cons.mp hu with rfl | hu
    · rw [eqU_of r f.1]; exact eqAt_V r rx f.1 fx
    · exact mem_eqAt rx fx t f.2 u' hu
def inV (x : V) (xs : List V) : Bool := xs.any fun y => eqV y x
def rIn (K : PySem.W.Frag) (neg : Bool) : R2 := fun x y H Q => ∃ p xs,y = .ref p ∧ (SqL K H p xs ∨ SqT K H p xs) ∧ flatV x = true ∧ xs.all flatV = true ∧ Q (.bl (if neg then !inV x xs else inV x xs)) H
theorem op_in_seq : OpR X (compareOp .In) (rIn X.K false) := by
  intro pins s σ H x y v u Q I rx ry h
  obtain ⟨p,xs,rfl,hq,fx,fs,q⟩ := h
  cases ry
  rcases hq with hq | hq
  · obtain ⟨its,r,pl,hz⟩ := I.list hq
    refine SeqAt.in_listAt (eqU x) pl.isList (fun w hw => mem_eqAt rx fx r fs w (by simpa using hw)) ⟨.bl _,H,I,rfl,?_⟩
    rw [show its.toArray.any (eqU x) = its.any (eqU x) by simp,any_eqU r fs]
    exact q
  · obtain ⟨its,r,pl,hz⟩ := I.tuple hq
    refine SeqAt.in_tupleAt (eqU x) pl (fun w hw => mem_eqAt rx fx r fs w (by simpa using hw)) ⟨.bl _,H,I,rfl,?_⟩
    rw [show its.toArray.any (eqU x) = its.any (eqU x) by simp,any_eqU r fs]
    exact q
theorem op_notIn_seq : OpR X (compareOp .NotIn) (rIn X.K true) := by
  intro pins s σ H x y v u Q I rx ry h
  obtain ⟨p,xs,rfl,hq,fx,fs,q⟩ := h
  cases ry
  rcases hq with hq | hq
  · obtain ⟨its,r,pl,hz⟩ := I.list hq
    refine SeqAt.notIn_listAt (eqU x) pl.isList (fun w hw => mem_eqAt rx fx r fs w (by simpa using hw)) ⟨.bl _,H,I,rfl,?_⟩
    rw [show its.toArray.any (eqU x) = its.any (eqU x) by simp,any_eqU r fs]
    exact q
  · obtain ⟨its,r,pl,hz⟩ := I.tuple hq
    refine SeqAt.notIn_tupleAt (eqU x) pl (fun w hw => mem_eqAt rx fx r fs w (by simpa using hw)) ⟨.bl _,H,I,rfl,?_⟩
    rw [show its.toArray.any (eqU x) = its.any (eqU x) by simp,any_eqU r fs]
    exact q
theorem call_len_seq : CallR X (.builtin "len") (fun xs H Q => ∃ p ys,xs = [.ref p] ∧ (SqL X.K H p ys ∨ SqT X.K H p ys) ∧ Q (.int ys.length) H) := by
  intro pins s σ H xs us Q I r h
  obtain ⟨p,ys,rfl,hq,q⟩ := h
  obtain ⟨u,rfl,rx⟩ := vals1 r
  cases rx
  have hn := line63
  rcases hq with hq | hq
  · obtain ⟨its,r',pl,hz⟩ := I.list hq
    have hlen := r'.length
    exact Calls.call_len_list pl.isList (by simp only [List.size_toArray] <;> omega) ⟨.int ys.length,H,I.tok _,⟨s.toks + 1,by rw [List.size_toArray,hlen]⟩,q⟩
  · obtain ⟨its,r',pl,hz⟩ := I.tuple hq
    have hlen := r'.length
    exact len_tuple pl (by simp only [List.size_toArray] <;> omega) ⟨.int ys.length,H,I.tok _,⟨s.toks + 1,by rw [List.size_toArray,hlen]⟩,q⟩
theorem call_len_str : CallR X (.builtin "len") (fun xs H Q => ∃ z,xs = [.str z] ∧ z.length ≤ sizeLine ∧ Q (.int z.length) H) := by
  intro pins s σ H xs us Q I r h
  obtain ⟨z,rfl,hz,q⟩ := h
  obtain ⟨u,rfl,t,rfl⟩ := vals1 r
  have hn := line63
  exact len_str (by omega) ⟨.int z.length,H,I.tok _,⟨_,rfl⟩,q⟩
theorem call_list_of : CallR X (.type "list") (fun xs H Q => ∃ p ys,xs = [.ref p] ∧ (SqL X.K H p ys ∨ SqT X.K H p ys) ∧ ∀ l,H l = none → Q (.ref l) (upd H l (.lst ys))) := by
  intro pins s σ H xs us Q I r h
  obtain ⟨p,ys,rfl,hq,q⟩ := h
  obtain ⟨u,rfl,rx⟩ := vals1 r
  cases rx
  have fin : ∀ (its : List Value),Vals ys its → ys.length ≤ sizeLine → ∀ (h' : Heap) (c' : Nat),(∀ b o',s.heap.get? b = some o' → h'.get? b = some o') →
      h'.get? s.heap.objs.size = some { cls := .type "list",dict := none,data := .seq its.toArray c',slots := #[] } → EP X pins σ Q (.ref s.heap.objs.size) { s with heap := h' } := fun its r' hz h' c' kp e =>
    ⟨.ref s.heap.objs.size,_,I.laid (t' := s.toks) kp (Nat.le_refl _) (show ObjOk X.prog X.w _ h' _ (.lst ys) from ⟨hz,its,c',r',e⟩),rfl,q _ (I.hok.fresh (Nat.le_refl _))⟩
  rcases hq with hq | hq
  · obtain ⟨its,r',pl,hz⟩ := I.list hq
    have hlen := r'.length
    obtain ⟨o,ho,hc,n,hd⟩ := pl.isList
    exact call_list_seq p (.inl rfl) ho hc hd (fun h' c' kp e => fin its r' hz h' c' kp e) (by simp only [List.size_toArray] <;> omega)
  · obtain ⟨its,r',pl,hz⟩ := I.tuple hq
    have hlen := r'.length
    obtain ⟨o,ho,hc,n,hd⟩ := pl
    exact call_list_seq p (.inr rfl) ho hc hd (fun h' c' kp e => fin its r' hz h' c' kp e) (by simp only [List.size_toArray] <;> omega)
def tyV (K : PySem.W.Frag) (T : String) (x : V) (H : Hp) : Prop := match x with
  | .str _ => T = "str"
  | .int _ => T = "int"
  | .ref p => (T = "list" ∧ ∃ xs,SqL K H p xs) ∨ (T = "tuple" ∧ ∃ o,K.lookup p = some o ∧ o.cls = .type "tuple" ∧ o.dict = none) ∨
      (T = "dict" ∧ ((∃ kvs,H p = some (.dK kvs)) ∨ ∃ kvs,H p = some (.dT kvs))) ∨ (T = "set" ∧ ∃ S n,H p = some (.set S n))
  | _ => False
theorem tyV_is {pins : List (Addr × Obj)} {σ : St} {H : Hp} {s : Shared} {T : String} {x : V} {v : Value} (I : Inv X pins σ H s) (r : RelV x v) (ty : tyV X.K T x H) :
    s.TypeIs v T ∧ ∀ a,v = .ref a → ∃ ob,s.heap.get? a = some ob ∧ ob.dict = none := by
  cases x with
  | str z =>
    obtain ⟨t,rfl⟩ := r
    cases (show T = "str" from ty)
    exact ⟨typeIs_str s z t,fun _ e => nomatch e⟩
  | int i =>
    obtain ⟨t,rfl⟩ := r
    cases (show T = "int" from ty)
    exact ⟨typeIs_int s i t,fun _ e => nomatch e⟩
  | ref p =>
    cases r
    rcases ty with ⟨rfl,xs,hq⟩ | ⟨rfl,o,hk,hc,hd⟩ | ⟨rfl,hk⟩ | ⟨rfl,S,n,hk⟩
    · obtain ⟨its,_,pl,_⟩ := I.list hq
      refine ⟨pl.isList.typeIs,fun a e => ?_⟩
      cases e
      obtain ⟨o,n,e,c,hd,_⟩ := pl
      exact ⟨o,e,hd⟩
    · refine ⟨⟨o,I.kIn p o hk,hc⟩,fun a e => ?_⟩
      cases e
      exact ⟨o,I.kIn _ o hk,hd⟩
    · have z : ∃ o,s.heap.get? p = some o ∧ o.ExactDict := by
        rcases hk with ⟨kvs,hk⟩ | ⟨kvs,hk⟩
        · obtain ⟨_,_,_,_,o,_,_,e,ex,_⟩ := I.hok p _ hk
          exact ⟨o,e,ex⟩
        · obtain ⟨_,_,_,_,o,_,_,e,ex,_⟩ := I.hok p _ hk
          exact ⟨o,e,ex⟩
      obtain ⟨o,e,ex⟩ := z
      refine ⟨⟨o,e,ex.1⟩,fun a e2 => ?_⟩
      cases e2
      exact ⟨o,e,ex.2.1⟩
    · obtain ⟨o,_,_,_,e,ex,_⟩ := I.hok p _ hk
      refine ⟨⟨o,e,ex.1⟩,fun a e2 => ?_⟩
      cases e2
      exact ⟨o,e,ex.2.1⟩
  | _ => exact False.elim ty
def tBM (K : PySem.W.Frag) (T : String) (r : V → List V → Hp → VK → Prop) (to : TE) (t : TA) : TE := fun σ H Q => to σ H fun x H1 => tyV K T x H1 ∧ t σ H1 fun xs H2 => r x xs H2 Q
variable {o e : Expr} {es : List Expr} {to : TE} {t : TA} {name : Str} {apos cpos : Pos} {T id : String} {r : V → List V → Hp → VK → Prop}
theorem pe_bm (pa : PlainAttrs T) (slot : Slot T name id) (hty : typeOf (.builtin id) = pure (.type "method_descriptor")) (hm : MtR X id r) (ho : PE X o to) (ha : PA X (e :: es) t)
    (hbase : attributeBase o name X.env (eval o X.env) = eval o X.env := by rfl)
    (hfew : ((backTo cpos (starEach (e :: es) X.env)).all (fun x => !x.1) && (backToKw cpos (keywordEach [] X.env)).all (fun x => x.1.isSome)
      && decide ((e :: es).length + ([] : List Keyword).length + (if ([] : List Keyword).isEmpty then 0 else 1) < 30)) = true := by rfl)
    (hline : (apos.endLine == cpos.line) = true := by rfl) (hs : starEach (e :: es) X.env = (false,eval e X.env) :: starEach es X.env := by rfl) (hplain : (backTo cpos (starEach es X.env)).any (·.1) = false := by rfl) :
    PE X (.Call (.Attribute o name apos) (e :: es) [] cpos) (tBM X.K T r to t) := by
  intro pins s σ H Q I h
  refine wpAny_Call_method_late hbase hfew hline rfl (thn (ho pins s σ H _ I h) fun v s1 ⟨x,H1,I1,r1,ty,q1⟩ => ?_)
  obtain ⟨h1,h2⟩ := tyV_is I1 r1 ty
  refine ⟨T,id,pa,slot,hty,h1,h2,?_⟩
  have hA := ha cpos pins s1 σ H1 _ I1 q1
  rw [hs] at hA ⊢
  refine Calls.callWith_builtin (by show (false || (backTo cpos (starEach es X.env)).any (·.1)) = false; rw [hplain] <;> rfl) (Calls.evalArgs_plain ?_)
  exact thn hA fun us s2 ⟨vs,H2,I2,r2,q2⟩ => hm pins s2 σ H2 x vs v us Q I2 r1 r2 q2
end
end L2
namespace L2
open PySem PySem.Spec PyProof.Rows
def MtM (X : Cx) (id : String) (r : V → List V → Hp → VK → Prop) : Prop :=
  ∀ (pins : List (Addr × Obj)) (s : Shared) (σ : St) (H : Hp) (x : V) (xs : List V) (v : Value) (us : List Value) (Q : VK),Inv X pins σ H s → RelV x v → Vals xs us → r x xs H Q →
    wpAny (model X.prog X.w) X.A (call (.builtin id) (v :: us)) (EP X pins σ Q) X.xe s
theorem Vals.one : ∀ {x : V} {us : List Value},Vals [x] us → ∃ u,us = [u] ∧ RelV x u
  | _,_,.cons r .nil => ⟨_,rfl,r⟩
theorem Vals.eraseIdx : ∀ {xs : List V} {us : List Value} (i : Nat),Vals xs us → Vals (xs.eraseIdx i) (us.eraseIdx i)
  | _,_,_,.nil => .nil
  | _,_,0,.cons _ t => t
  | _,_,i + 1,.cons r t => .cons r (Vals.eraseIdx i t)
theorem Vals.reverse {xs : List V} {us : List Value} (h : Vals xs us) : Vals xs.reverse us.reverse := by
  induction h with
  | nil => exact .nil
  | cons r t ih => rw [List.reverse_cons,List.reverse_cons]; exact Vals.append ih (.cons r .nil)
theorem Vals.rep {xs : List V} {us : List Value} (h : Vals xs us) : ∀ k : Nat,Vals (List.replicate k xs).flatten (List.replicate k us).flatten
  | 0 => .nil
  | k + 1 => by
    rw [List.replicate_succ,List.replicate_succ,List.flatten_cons,List.flatten_cons]
    exact Vals.append h (Vals.rep h k)
theorem len_erase {α : Type} : ∀ (l : List α) (i : Nat),(l.eraseIdx i).length ≤ l.length
  | [],_ => Nat.le_refl _
  | _ :: _,0 => Nat.le_succ _
  | _ :: r,i + 1 => Nat.succ_le_succ (len_erase r i)
theorem foldl_rep (its : List Value) : ∀ (k : Nat) (acc : List Value),
    List.foldl (fun x1 x2 => x1 ++ x2) acc.toArray (List.replicate k its.toArray) = (acc ++ (List.replicate k its).flatten).toArray
  | 0,acc => by simp
  | k + 1,acc => by
    have e : acc.toArray ++ its.toArray = (acc ++ its).toArray := by simp
    have e2 : (acc ++ its) ++ (List.replicate k its).flatten = acc ++ (List.replicate (k + 1) its).flatten := by
      rw [List.replicate_succ,List.flatten_cons,List.append_assoc]
    rw [← e2,← foldl_rep its k (acc ++ its),← e,List.replicate_succ,List.foldl_cons]
section
variable {X : Cx} {pins : List (Addr × Obj)} {σ : St} {H : Hp} {s : Shared} {l b : Addr} {xs ys zs : List V}
theorem Inv.lset {its its' : List Value} {n : Nat} {f : Array Value → Array Value} {t' : Nat} (I : Inv X pins σ H s) (hH : H l = some (.lst xs))
    (e : s.heap.get? l = some { cls := .type "list",data := .seq its.toArray n }) (hf : f its.toArray = its'.toArray) (hv : Vals ys its') (hz : ys.length ≤ sizeLine) :
    Inv X pins σ (upd H l (.lst ys)) { s with heap := s.heap.update l (Obj.mapSeq f),toks := t' } := by
  have q := PySem.IsL.update e f
  rw [hf] at q
  refine I.write (x := l) (e := l) (by rw [hH]; exact trivial) (.inl rfl) (fun b' u hb hu => (Heap.get?_update_other s.heap (Obj.mapSeq f) (Ne.symm hb)).trans hu) ⟨_,q⟩ ?_
  exact ⟨hz,its',_,hv,q⟩
theorem Inv.lnew {its : List Value} {t' : Nat} (I : Inv X pins σ H s) (hv : Vals ys its) (hz : ys.length ≤ sizeLine) :
    Inv X pins σ (upd H s.heap.objs.size (.lst ys)) { s with heap := s.heap.push { cls := .type "list",data := .seq its.toArray },toks := t' } :=
  I.laid (fun _ _ q => Heap.get?_push_of_some _ q) (Nat.le_refl _) ⟨hz,its,0,hv,Heap.get?_push_size _ rfl⟩
theorem Inv.fresh (I : Inv X pins σ H s) : H s.heap.objs.size = none := I.hok.fresh (Nat.le_refl _)
theorem Inv.lstM (I : Inv X pins σ H s) (hH : H l = some (.lst xs)) : xs.length ≤ sizeLine ∧ ∃ (its : List Value) (n : Nat),Vals xs its ∧ xs.length = its.length ∧ s.heap.get? l = some { cls := .type "list",data := .seq its.toArray n } := by
  obtain ⟨z,its,n,r,e⟩ := I.hok l _ hH
  exact ⟨z,its,n,r,r.length,e⟩
theorem notLongL {n : Nat} (h : n ≤ sizeLine) : Builtin.List.listTooLong n = false := by
  unfold Builtin.List.listTooLong
  exact decide_eq_false (by omega)
end
section
variable {X : Cx}
def rAppend : V → List V → Hp → VK → Prop := fun x vs H Q => ∃ l xs y,x = .ref l ∧ vs = [y] ∧ H l = some (.lst xs) ∧ xs.length < sizeLine ∧ Q .non (upd H l (.lst (xs ++ [y])))
theorem mt_append : MtM X "list.append" rAppend := by
  intro pins s σ H x vs v us Q I rx rv h
  obtain ⟨l,xs,y,rfl,rfl,hH,hz,q⟩ := h
  cases rx
  obtain ⟨u,rfl,ru⟩ := rv.one
  obtain ⟨z,its,n,r,hl,e⟩ := I.lstM hH
  refine call_meets F.slot_list_append ⟨_,e,rfl⟩ F.entry_list_append (F.args_list_append_2 _ _) (PySem.list_append l its.toArray n u (by rw [List.size_toArray]; omega)) ⟨e,?_⟩
  refine ⟨.non,_,I.lset (its' := its ++ [u]) hH e (by simp) (r.append (.cons ru .nil)) ?_,rfl,q⟩
  rw [List.length_append,List.length_singleton]
  omega
def rPopAt : V → List V → Hp → VK → Prop := fun x vs H Q => ∃ l xs i k y,x = .ref l ∧ vs = [.int i] ∧ H l = some (.lst xs) ∧ -(2 ^ 63) ≤ i ∧ i < 2 ^ 63 ∧ seqIndex? i xs.length = some k ∧ xs[k]? = some y ∧ Q y (upd H l (.lst (xs.eraseIdx k)))
theorem mt_popAt : MtM X "list.pop" rPopAt := by
  intro pins s σ H x vs v us Q I rx rv h
  obtain ⟨l,xs,i,k,y,rfl,rfl,hH,h1,h2,hk,hy,q⟩ := h
  cases rx
  obtain ⟨u,rfl,ru⟩ := rv.one
  obtain ⟨t,rfl⟩ := ru
  obtain ⟨z,its,n,r,hl,e⟩ := I.lstM hH
  obtain ⟨w,hw,rw'⟩ := r.get hy
  refine call_meets F.slot_list_pop ⟨_,e,rfl⟩ F.entry_list_pop (F.args_list_pop_2 _ _)
    (MeetsSeq.list_pop_at l its.toArray n i t k w (fitsIndex_both h1 h2) (by rw [List.size_toArray,← hl]; exact hk) (by rw [← Array.getElem?_toList]; exact hw) (by rw [List.size_toArray]; omega)) ⟨e,?_⟩
  refine ⟨y,_,I.lset (its' := its.eraseIdx k) hH e ?_ (r.eraseIdx k) ?_,rw',q⟩
  · show its.toArray.eraseIdxIfInBounds k = (its.eraseIdx k).toArray
    rw [List.eraseIdxIfInBounds_toArray]
  · have := len_erase xs k
    omega
def rCat : R2 := fun x y H Q => ∃ l b xs zs,x = .ref l ∧ y = .ref b ∧ H l = some (.lst xs) ∧ H b = some (.lst zs) ∧ xs.length + zs.length ≤ sizeLine ∧ ∀ p,H p = none → Q (.ref p) (upd H p (.lst (xs ++ zs)))
theorem op_cat : OpR X (binaryOp .Add) rCat := by
  intro pins s σ H x y v u Q I rx ry h
  obtain ⟨l,b,xs,zs,rfl,rfl,hH,hB,hz,q⟩ := h
  cases rx
  cases ry
  obtain ⟨z,its,n,r,hl,e⟩ := I.lstM hH
  obtain ⟨z2,its2,n2,r2,hl2,e2⟩ := I.lstM hB
  refine PySem.P.add_list e e2 ?_ (by rw [List.size_toArray,List.size_toArray]; omega)
  have ea : its.toArray ++ its2.toArray = (its ++ its2).toArray := by simp
  rw [ea]
  exact ⟨.ref _,_,I.lnew (t' := s.toks) (r.append r2) (by rw [List.length_append]; omega),rfl,q _ I.fresh⟩
def rRep : R2 := fun x y H Q => ∃ l k xs,x = .ref l ∧ y = .int k ∧ H l = some (.lst xs) ∧ -(2 ^ 63) ≤ k ∧ k < 2 ^ 63 ∧ xs.length * k.toNat ≤ sizeLine ∧
  ∀ p,H p = none → Q (.ref p) (upd H p (.lst (List.replicate k.toNat xs).flatten))
theorem len_rep {α : Type} (xs : List α) (k : Nat) : (List.replicate k xs).flatten.length = k * xs.length := by
  induction k with
  | zero => simp
  | succ k ih => rw [List.replicate_succ,List.flatten_cons,List.length_append,ih,Nat.succ_mul,Nat.add_comm]
theorem op_rep : OpR X (binaryOp .Mult) rRep := by
  intro pins s σ H x y v u Q I rx ry h
  obtain ⟨l,k,xs,rfl,rfl,hH,h1,h2,hz,q⟩ := h
  cases rx
  obtain ⟨t,rfl⟩ := ry
  obtain ⟨z,its,n,r,hl,e⟩ := I.lstM hH
  have hlen : its.toArray.size * k.toNat ≤ sizeLine := by rw [List.size_toArray,← hl]; exact hz
  have hcap : ¬ its.toArray.size * k.toNat > (2 ^ 63 - 1) / 8 := by
    have : (sizeLine : Nat) ≤ (2 ^ 63 - 1) / 8 := by decide
    omega
  have hfit : ¬ (!Builtin.List.listFitsIndex k) = true := by
    rw [fitsIndex_both h1 h2]
    exact Bool.false_ne_true
  have hlong : ¬ Builtin.List.listTooLong (its.toArray.size * k.toNat) = true := by
    rw [notLongL hlen]
    exact Bool.false_ne_true
  have hnew : List.foldl (fun x1 x2 => x1 ++ x2) #[] (List.replicate (if its.toArray.isEmpty = true then 0 else k.toNat) its.toArray) = (List.replicate k.toNat its).flatten.toArray := by
    have f0 : ∀ m : Nat,List.foldl (fun x1 x2 => x1 ++ x2) #[] (List.replicate m its.toArray) = (List.replicate m its).flatten.toArray := fun m => by
      have := foldl_rep its m []
      rw [List.nil_append] at this
      exact this
    rw [f0]
    cases its with
    | nil => simp
    | cons a r' => rw [if_neg (by simp)]
  refine wpAny_binaryOp_repeat_ref (T := "list") (U := "int") (by decide) ⟨_,e,rfl⟩ (fun s' => typeIs_int s' k t) noFill_list_mul F.fills_int_mul F.slot_int_rmul repeat_list F.slot_int_index.lookup
    (call_meets F.slot_int_rmul (typeIs_int s k t) F.entry_int_rmul (F.args_int_rmul_2 _ _) (int___rmul___int_list k t l its.toArray n)
      ⟨e,rfl,⟨_,e,rfl⟩,call_meets F.slot_list_mul ⟨_,e,rfl⟩ F.entry_list_mul (F.args_list_mul_2 _ _) (AutoListH.list___mul___list_int_3 l its.toArray n k t hfit hcap hlong) ⟨e,?_⟩⟩)
  rw [hnew]
  exact ⟨.ref _,_,I.lnew (t' := s.toks) (r.rep k.toNat) (by rw [len_rep,Nat.mul_comm]; exact hz),rfl,q _ I.fresh⟩
end
section
variable {prog : Program} {w : World} {A : Around} {E : Value → Shared → Prop} {s : Shared}
theorem splice_eq (its its2 : List Value) (a c : Nat) : its.toArray.extract 0 a ++ its2.toArray ++ its.toArray.extract c its.toArray.size = (its.take a ++ its2 ++ its.drop c).toArray := by
  apply Array.toList_inj.mp
  first
    | (simp
       exact List.take_of_length_le (by simp))
    | simp [List.take_of_length_le]
    | simp
set_option maxRecDepth 100000 in
end
section
variable {X : Cx}
end
end L2
namespace Att
open PySem PySem.W PySem.Calls PyProof.Rows
theorem ints_of_wellAll {P : Params} {h : Heap} : ∀ (ns : List Int) (vs : List Value),WellAll P h vs (ns.map WData.int) → IntsAre vs ns := by
  intro ns
  induction ns with
  | nil =>
    intro vs w
    rw [List.map_nil] at w
    cases w
    exact .nil
  | cons n ns ih =>
    intro vs w
    rw [List.map_cons] at w
    cases w with
    | cons a b =>
      cases a
      exact .cons _ _ (ih _ b)
theorem script_of {l : OpenLaw} {n : Nat} (hn : l.most = some n) {P : Params} {h : Heap} {args : List WData} {vals : List Value}
    (hpre : l.row.toRowW.claim.pre args = true) (hwl : WellAll P h vals args) :
    ∃ a vs ns,vals = [Value.ref a] ∧ args = [WData.list (ns.map WData.int)] ∧ h.get? a = some { cls := .type "list",data := .seq vs.toArray } ∧ IntsAre vs ns ∧ ns.length ≤ n := by
  have hsh : WShape.hasAll [] args [.list .int] = true := (pre_splitW hpre).1
  have hc : l.pre.holds [] { args := args } = true := (pre_splitW hpre).2
  obtain ⟨d,r,rfl,h1,h2⟩ := hasAllW_cons hsh
  obtain rfl := hasAllW_nil h2
  obtain ⟨xs,rfl,h3⟩ := hasW_list h1
  obtain ⟨ns,rfl⟩ := items_int h3
  have hlen : ns.length ≤ n := by
    unfold OpenLaw.pre at hc
    have h4 : (WTm.not (.lt (.lit (.int (n : Int))) (.len (.arg 0)))).holds [] { args := [.list (ns.map .int)] } = true := by
      have h4 := (holds_andW hc).1
      rw [hn] at h4
      exact h4
    have h5 := condW_of h4 (w_not (w_lt w_lit (w_len_list (w_arg rfl))))
    rw [List.length_map] at h5
    refine Nat.le_of_not_lt fun q => ?_
    have q' : (n : Int) < ((ns.length : Nat) : Int) := by omega
    first
      | (rw [decide_eq_true q'] at h5; exact absurd h5 (by decide))
      | (simp at h5; omega)
  cases hwl with
  | cons w1 w2 =>
    cases w2
    cases w1 with
    | list ho hall => exact ⟨_,_,ns,rfl,rfl,ho,ints_of_wellAll ns _ hall,hlen⟩
theorem post_true (l : OpenLaw) (args : List WData) : l.row.toRowW.claim.post args (.bool true) args = true :=
  postW_of (r := l.row.toRowW) (X := (true == true))
    (show WShape.has [] (.bool true) .bool = true by first | rfl | decide | simp [WShape.has,WShape.arms,WShape.armsAll])
    (show (WTm.eq .res (.lit (.bool true))).value [] { args := args,res := some (.bool true),after := args } = some (.bool (true == true)) from w_eq_bool (w_res rfl) w_lit) rfl
theorem attach_call {l : OpenLaw} {n : Nat} {q : Program} {loose : List Str} {XP : (Str → Option Value) → Heap → Prop} {YP : World → Heap → Prop} {d : DefRec}
    (hn : l.most = some n) (hdf : d.params.defaults = [])
    (call : ∀ (w : World) (s₀ s₁ : Shared) (mg mb : Str → Option Value) (fa : Addr) (o : Obj) (pm cd doc : Value) (a : Addr) (vs : List Value) (ns : List Int),
      Ground q loose [] XP w s₀ mg mb s₁.heap → YP w s₁.heap →
      s₁.heap.get? fa = some o → o.data = .func (docDef d.name d.params d.body d.scope pm cd doc) → s₁.heap.CodeRec cd d.name → mg d.name = some (.ref fa) →
      s₁.heap.get? a = some { cls := .type "list",data := .seq vs.toArray } → IntsAre vs ns → ns.length ≤ n → s₁.gens = #[] →
      codeAny (model l.prog w) callerA (.call (.ref fa) ⟨[.ref a],[]⟩) (fun r s' => r = .ok (.ret (.bool true)) ∧ OldK s₁.heap s'.heap ∧ s'.os = s₁.os ∧ AllBare s'.gens) s₁) :
    WalkO q loose XP YP l.row.toRowW d [] (fun f vs => PySem.call f vs) := by
  intro w s₀ s₁ mg mb G Y fa o pm cd doc dV kV ho hd hcd hD hmg hg args vals as hpre hlay hrd hwl hlo
  obtain rfl : dV = .none := Dflts.none hD hdf
  obtain rfl : kV = .none := Dflts.noKw hD
  obtain ⟨a,vs,ns,rfl,rfl,hobj,hints,hlen⟩ := script_of hn hpre hwl
  refine enter_call (codeAny_mono (call w s₀ s₁ mg mb fa o pm cd doc a vs ns G Y ho (fd_plain hd) hcd hmg hobj hints hlen hg) fun r s' hq => ?_)
  obtain ⟨rfl,h2,h3,h4⟩ := hq
  exact ⟨.inl ⟨.bool true,.bool true,[],rfl,fun _ => rfl,.bool true,post_true l _,fun _ => ⟨List.Pairwise.nil,fun _ hm => (nomatch hm)⟩⟩,h2,h3,h4⟩
section
variable {prog : Program} {w : World} {A : Around} {E : Value → Shared → Prop} {s : Shared} {K : Frag}
end
end Att
namespace L2
open PySem PySem.Spec PyProof.Rows
theorem vals_ints : ∀ {vs : List Value} {ns : List Int},IntsAre vs ns → Vals (ns.map V.int) vs
  | _,_,.nil => .nil
  | _,_,.cons n t h => .cons ⟨t,rfl⟩ (vals_ints h)
def Only (H : Hp) : Prop := ∀ b,H b = none ∨ ∃ o xs,H b = some (.frz o (.lst xs))
theorem law_call {P : Program} {w : World} {K : PySem.W.Frag} {mg mb : Str → Option Value} {CX : CXT} {k : Nat} {fa a : Addr} {fd : FuncData} {x : Str} {sp : Sp} {s₁ : Shared} {vs : List Value} {ns : List Int}
    (KX : K.In s₁.heap) (hns : s₁.heap.Ns mainGlobals mg) (hb : s₁.heap.Ns builtinsNs mb) (hbb : ∀ x : Str,x ≠ "__name__" → mb x = bootBuiltins x) (hlim : s₁.heap.NoLimit) (hg : s₁.gens = #[])
    (ha : s₁.heap.get? a = some { cls := .type "list",data := .seq vs.toArray }) (hi : IntsAre vs ns) (hl : ns.length ≤ sizeLine) (hr : Room k callerA)
    (F : ∀ base : Heap,K.In base → base.Ns mainGlobals mg → FnOk P w K mg base CX k fa fd [x] sp) (hbind : ∀ (s : Shared) (u : Value),BindsTo s fd ⟨[u],[]⟩ [(x,u)])
    (hsp : ∀ H : Hp,Only H → SqL K H a (ns.map V.int) → sp [.ref a] H (fun v _ => v = .bl true) fun _ _ _ => False)
    (hCX : ∀ H e s',CX [] H s₁ (fun _ _ _ => False) e s' → False) :
    codeAny (model P w) callerA (.call (.ref fa) ⟨[.ref a],[]⟩) (fun r s' => r = .ok (.ret (.bool true)) ∧ OldK s₁.heap s'.heap ∧ s'.os = s₁.os ∧ AllBare s'.gens) s₁ := by
  have rv := vals_ints hi
  have lenV := hi.length
  have core : ∀ H : Hp,Only H → SqL K H a (ns.map V.int) → HOk P w H s₁.heap → (∀ b,H b ≠ none → b = a) → (H a ≠ none → K.lookup a = none) →
      codeAny (model P w) callerA (.call (.ref fa) ⟨[.ref a],[]⟩) (fun r s' => r = .ok (.ret (.bool true)) ∧ OldK s₁.heap s'.heap ∧ s'.os = s₁.os ∧ AllBare s'.gens) s₁ := by
    intro H hO hS hok hA hK
    have base_of : ∀ {b : Addr} {o : Obj},s₁.heap.get? b = some o → H b = none → (hidT s₁.heap H).get? b = some o := fun e n => hidT_get e n
    have noA : ∀ {b : Addr} {o : Obj} {es : Array DictEntry} {ep : Nat},s₁.heap.get? b = some o → o.data = .dict es ep → H b = none := fun {b o es ep} e d => by
      cases q : H b with
      | none => rfl
      | some u =>
        have e' : b = a := hA b (by rw [q]; simp)
        subst e'
        rw [ha] at e; cases e
        have d' : Data.seq vs.toArray _ = Data.dict es ep := d
        cases d'
    have nsK : ∀ {b : Addr} {m : Str → Option Value},s₁.heap.Ns b m → (hidT s₁.heap H).Ns b m := fun {b m} ⟨o,es,ep,e,d,r⟩ => ⟨o,es,ep,base_of e (noA e d),d,r⟩
    have hKb : K.In (hidT s₁.heap H) := fun b o e => base_of (KX b o e) (by
      cases q : H b with
      | none => rfl
      | some u =>
        have e' : b = a := hA b (by rw [q]; simp)
        subst e'
        rw [hK (by rw [q]; simp)] at e; cases e)
    have hM : Mod K mg (hidT s₁.heap H) := ⟨hKb,nsK hns,⟨mb,nsK hb,hbb⟩,let ⟨mc,h1,h2⟩ := hlim; ⟨mc,nsK h1,h2⟩⟩
    have e0 : Env0 P w K mg (hidT s₁.heap H) callerA [] s₁ H := ⟨rfl,hM,fun b o e => of_hidT e,Nat.le_of_eq (hidT_size _ _),trivial,fun b hb => absurd (show b ∈ ([] : List Addr) from hb) (by simp),hok,.of_eq hg⟩
    refine codeAny_mono ((F _ hKb (nsK hns)).run callerA [] s₁ H ⟨[.ref a],[]⟩ [.ref a] [.ref a] _ _ hr e0 (hbind s₁ (.ref a)) (.cons rfl .nil) (hsp H hO hS)) fun r s' h => ?_
    cases r with
    | error e => exact (hCX H e s' h).elim
    | ok fl =>
      cases fl with
      | next => exact False.elim h
      | brk => exact False.elim h
      | cont => exact False.elim h
      | ret u =>
        obtain ⟨v,H',os,bare,un,hok',r',q⟩ := h
        have q' : v = .bl true := q
        subst q'
        obtain rfl : u = Value.bool true := r'
        refine ⟨rfl,OldK.of_keep fun b o e => ?_,os,bare⟩
        cases q : H b with
        | none => exact un.keep b o e q (by intro z; exact absurd (show b ∈ ([] : List Addr) from z) (by simp)) (by simp)
        | some u =>
          rcases hO b with z | ⟨ob,xs,z⟩
          · rw [q] at z; cases z
          · have z2 := un.frzs b ob _ z
            obtain ⟨e1,_⟩ := hok b _ z
            obtain ⟨e2,_⟩ := hok' b _ z2
            rw [e] at e1; cases e1
            exact e2
  cases hk : K.lookup a with
  | some o =>
    have e := KX a o hk
    rw [ha] at e
    cases e
    refine core (fun _ => none) (fun _ => .inl rfl) (.inr ⟨_,vs.toArray,_,hk,rfl,rfl,rfl,by rw [List.size_toArray,lenV]; exact hl,by simpa using rv⟩) (fun b u z => by have z' : (none : Option HO) = some u := z; cases z') (fun b z => absurd rfl z) fun z => absurd rfl z
  | none =>
    refine core (fun b => if b = a then some (.frz { cls := .type "list",data := .seq vs.toArray } (.lst (ns.map V.int))) else none) (fun b => ?_) (.inl (.inr ⟨{ cls := .type "list",data := .seq vs.toArray },if_pos rfl⟩)) (fun b u z => ?_) (fun b z => ?_) fun _ => hk
    · by_cases hb : b = a
      · exact .inr ⟨_,_,if_pos hb⟩
      · exact .inl (if_neg hb)
    · by_cases hb : b = a
      · have z' := (if_pos hb).symm.trans z
        cases z'
        subst hb
        exact ⟨ha,by rw [List.length_map]; exact hl,vs,_,rv,ha⟩
      · have z' := (if_neg hb).symm.trans z
        cases z'
    · by_cases hb : b = a
      · exact hb
      · exact absurd (if_neg hb) z
end L2
namespace L2
open PySem PySem.Spec PyProof.Rows
theorem walk_of {l : PySem.W.OpenLaw} {n k : Nat} {q : Program} {loose : List Str} {XP : (Str → Option Value) → Heap → Prop} {YP : World → Heap → Prop} {d : DefRec} {K : Params → PySem.W.Frag} {CX : World → CXT} {sp : World → Sp} {x : Str}
    (hn : l.most = some n) (hn2 : n ≤ sizeLine) (hdf : d.params.defaults = []) (hr : Room k callerA)
    (hY : ∀ (w : World) (h : Heap),YP w h → (K w.params).In h)
    (F : ∀ (w : World) (mg : Str → Option Value) (fa : Addr) (h : Heap),(K w.params).In h → h.Ns mainGlobals mg → mg d.name = some (.ref fa) →
      ∃ fd : FuncData,(∀ (s : Shared) (u : Value),BindsTo s fd ⟨[u],[]⟩ [(x,u)]) ∧
        ∀ base : Heap,(K w.params).In base → base.Ns mainGlobals mg → FnOk l.prog w (K w.params) mg base (CX w) k fa fd [x] (sp w))
    (hsp : ∀ (w : World) (H : Hp) (a : Addr) (ns : List Int),ns.length ≤ n → Only H → SqL (K w.params) H a (ns.map V.int) → sp w [.ref a] H (fun v _ => v = .bl true) fun _ _ _ => False)
    (hCX : ∀ (w : World) (H : Hp) (s : Shared) (e : Value) (s' : Shared),CX w [] H s (fun _ _ _ => False) e s' → False) :
    PySem.W.WalkO q loose XP YP l.row.toRowW d [] (fun f vs => PySem.call f vs) := by
  refine Att.attach_call hn hdf fun w s₀ s₁ mg mb fa o pm cd doc a vs ns G Y ho hd hcd hmg hobj hints hlen hg => ?_
  have KX := hY w _ Y
  obtain ⟨fd,hb,hF⟩ := F w mg fa _ KX G.T.g hmg
  exact law_call KX G.T.g G.T.b G.T.builtins G.T.nolimit hg hobj hints (Nat.le_trans hlen hn2) hr hF hb (fun H hO hS => hsp w H a ns hlen hO hS) fun H e s' => hCX w H s₁ e s'
end L2
namespace L2
open PySem PySem.Spec PyProof.Rows
def defArgs (s : Stmt) : Arguments := match s with
  | .FunctionDef _ a _ _ _ _ _ _ _ _ => a
  | _ => { posonlyargs := [],args := [],vararg := none,kwonlyargs := [],kw_defaults := [],kwarg := none,defaults := [] }
def defBody (s : Stmt) : List Stmt := match s with
  | .FunctionDef _ _ b _ _ _ _ _ _ _ => b
  | _ => []
def defScope (s : Stmt) : Scope := match s with
  | .FunctionDef _ _ _ _ _ _ sc _ _ _ => sc
  | _ => { kind := .function,names := [],isGenerator := false,isCoroutine := false }
abbrev CX0 : CXT := fun _ _ _ _ _ _ => False
abbrev E0 : XK := fun _ _ _ => False
theorem pass0 {X : Cx} : Passes CX0 X E0 := fun _ _ _ _ _ _ _ h => h.elim
section
variable {P : Program} {w : World} {K : PySem.W.Frag} {mg : Str → Option Value} {base : Heap}
end
theorem small1000 {n : Nat} (h : n ≤ 1000) : n < sizeLine := Nat.lt_of_le_of_lt h (by decide)
section
variable {X : Cx}
theorem pv (i : Nat) {x : Str} {pos : Pos} (hN : X.N[i]? = some x := by rfl) (hv : Vis X.env.scope x := by first | exact Or.inl rfl | exact Or.inr (Or.inl rfl) | exact Or.inr (Or.inr rfl)) (hd : (x == ("__debug__" : Str)) = false := by decide)
    (hcd : (x == ("__classdict__" : Str)) = false := by decide) : PE X (.Name x pos) (tVar i) := pe_var hN hv hd hcd
end
theorem iteF {A B : Prop} (h : B) : if false = true then A else B := by
  rw [if_neg Bool.false_ne_true]
  exact h
theorem iteT {A B : Prop} (h : A) : if true = true then A else B := by
  rw [if_pos rfl]
  exact h
def Same (H H' : Hp) : Prop := ∀ b o,H b = some o → H' b = some o
theorem Same.refl (H : Hp) : Same H H := fun _ _ h => h
theorem Same.trans {H H1 H2 : Hp} (a : Same H H1) (b : Same H1 H2) : Same H H2 := fun c o h => b c o (a c o h)
theorem Same.free {H H' : Hp} (e : Same H H') {l : Addr} (h : H' l = Option.none) : H l = Option.none := by
  cases q : H l with
  | none => rfl
  | some o =>
    rw [e l o q] at h
    cases h
theorem Same.seq {K : PySem.W.Frag} {H H' : Hp} {a : Addr} {xs : List V} (e : Same H H') (h : SqL K H a xs) : SqL K H' a xs := by
  rcases h with (h | ⟨o,h⟩) | h
  · exact .inl (.inl (e _ _ h))
  · exact .inl (.inr ⟨o,e _ _ h⟩)
  · exact .inr h
end L2
end
section
set_option Elab.async false
set_option linter.all false
set_option maxRecDepth 100000
set_option maxHeartbeats 4000000
namespace Mth
theorem gcd_step {a b : Int} (ha : 0 ≤ a) (hb : 0 < b) : Int.gcd b (a % b) = Int.gcd a b := by
  obtain ⟨m,rfl⟩ := Int.eq_ofNat_of_zero_le ha
  obtain ⟨n,rfl⟩ := Int.eq_ofNat_of_zero_le (Int.le_of_lt hb)
  rw [← Int.natCast_emod]
  show Nat.gcd (n : Int).natAbs ((m % n : Nat) : Int).natAbs = Nat.gcd (m : Int).natAbs (n : Int).natAbs
  simp only [Int.natAbs_natCast]
  rw [Nat.gcd_comm m n,Nat.gcd_comm n (m % n)]
  exact (Nat.gcd_rec n m).symm
theorem gcd_abs (a b : Int) : Int.gcd (if a < 0 then -a else a) b = Int.gcd a b := by
  split
  · exact Int.neg_gcd
  · rfl
theorem gcd_abs' (a b : Int) : Int.gcd a (if b < 0 then -b else b) = Int.gcd a b := by
  rw [Int.gcd_comm,gcd_abs,Int.gcd_comm]
theorem gcd_zero {a : Int} (ha : 0 ≤ a) : (Int.gcd a 0 : Int) = a := by
  rw [Int.gcd_zero]; omega
structure Low (t b : Int) : Prop where
  pos : 1 ≤ b
  one : Int.gcd t b = 1
theorem gcd_pos {a b : Int} (h : b ≠ 0) : 0 < (Int.gcd a b : Int) := by
  have := Int.gcd_pos_of_ne_zero_right a h
  omega
theorem div_eq (a b : Int) : a = a / (Int.gcd a b : Int) * (Int.gcd a b : Int) := (Int.ediv_mul_cancel (Int.gcd_dvd_left a b)).symm
theorem div_eq' (a b : Int) : b = b / (Int.gcd a b : Int) * (Int.gcd a b : Int) := (Int.ediv_mul_cancel (Int.gcd_dvd_right a b)).symm
theorem div_low {a b : Int} (hb : 0 < b) : Low (a / (Int.gcd a b : Int)) (b / (Int.gcd a b : Int)) := by
  have hg := gcd_pos (a := a) (b := b) (by omega)
  refine ⟨?_,?_⟩
  · have h1 := div_eq' a b
    have h2 : 0 < b / (Int.gcd a b : Int) := Int.ediv_pos_of_pos_of_dvd hb (by omega) (Int.gcd_dvd_right a b)
    omega
  · rw [Int.gcd_ediv (Int.gcd_dvd_left a b) (Int.gcd_dvd_right a b)]
    simp only [Int.natAbs_natCast]
    exact Nat.div_self (by omega)
structure Frac (top bottom t b : Int) : Prop where
  low : Low t b
  eq : top * b = t * bottom
theorem frac_pos {a b : Int} (hb : 0 < b) : Frac a b (a / (Int.gcd a b : Int)) (b / (Int.gcd a b : Int)) := by
  refine ⟨div_low hb,?_⟩
  have h1 := div_eq a b
  have h2 := div_eq' a b
  generalize a / (Int.gcd a b : Int) = x at *
  generalize b / (Int.gcd a b : Int) = y at *
  generalize (Int.gcd a b : Int) = g at *
  subst h1 h2
  grind
end Mth
namespace L2
open PySem PySem.Spec PyProof.Rows
abbrev bits (i : Int) : Nat := Builtin.Int.intBits i
theorem bits_of {i : Int} {n : Nat} (h : i.natAbs < 2 ^ n) : bits i ≤ n := intBits_le h
theorem bits_lt {i : Int} {n : Nat} (h : bits i ≤ n) : i.natAbs < 2 ^ n := by
  unfold bits Builtin.Int.intBits at h
  by_cases h0 : i = 0
  · subst h0
    exact Nat.pos_of_ne_zero (by simp)
  · rw [if_neg (by simpa using h0)] at h
    have h1 : i.natAbs ≠ 0 := by omega
    exact (Nat.log2_lt h1).mp (by omega)
theorem bits_mono {i j : Int} {n : Nat} (h : i.natAbs ≤ j.natAbs) (hj : bits j ≤ n) : bits i ≤ n := bits_of (Nat.lt_of_le_of_lt h (bits_lt hj))
theorem bits_le {i : Int} {m n : Nat} (h : bits i ≤ m) (hm : m ≤ n) : bits i ≤ n := Nat.le_trans h hm
section
variable {X : Cx} {pos : Pos}
def CM (i j : Int) : Prop := IntMulOk i j
theorem CM.l {i j : Int} (h : -(2 ^ 64) < i ∧ i < 2 ^ 64) : CM i j := CMul.ok (.inl h)
theorem CM.r {i j : Int} (h : -(2 ^ 64) < j ∧ j < 2 ^ 64) : CM i j := CMul.ok (.inr h)
theorem op_mulX : OpR X (binaryOp .Mult) (rI CM fun i j => .int (i * j)) := opI fun _ _ _ _ _ _ _ hc q => mul_int q hc
def CD (_ j : Int) : Prop := 0 < j ∧ bits j ≤ 8000
theorem log2_of_bits {j : Int} {n : Nat} (hj : j ≠ 0) (h : bits j ≤ n) (hn : n ≤ 9000) : j.natAbs.log2 < 9000 := by
  have h1 : j.natAbs ≠ 0 := by omega
  have h2 := (Nat.log2_lt h1).mpr (bits_lt h)
  omega
theorem op_fdivP : OpR X (binaryOp .FloorDiv) (rI CD fun i j => .int (i / j)) := opI fun i j _ _ _ _ _ hc q => by
  have h1 : (0 : Int) < j := hc.1
  exact floordiv_int (by omega) (by rw [Int.fdiv_eq_ediv_of_nonneg i (by omega)]; exact q) (.inl (PyProof.noPylong_of_log2 (log2_of_bits (by omega) hc.2 (by decide))))
end
theorem bt_int : bootBuiltins "int" = some (.type "int") := by decide +kernel
theorem bt_bool : bootBuiltins "bool" = some (.type "bool") := by decide +kernel
theorem bt_str : bootBuiltins "str" = some (.type "str") := by decide +kernel
theorem bt_tuple : bootBuiltins "tuple" = some (.type "tuple") := by decide +kernel
theorem bt_list : bootBuiltins "list" = some (.type "list") := by decide +kernel
theorem bt_isinstance : bootBuiltins "isinstance" = some (.builtin "isinstance") := by decide +kernel
theorem bt_abs : bootBuiltins "abs" = some (.builtin "abs") := by decide +kernel
theorem bt_len : bootBuiltins "len" = some (.builtin "len") := by decide +kernel
theorem bt_min : bootBuiltins "min" = some (.builtin "min") := by decide +kernel
theorem bt_max : bootBuiltins "max" = some (.builtin "max") := by decide +kernel
theorem pe_ty {X : Cx} {x : Str} {T : String} {pos : Pos} (hm : X.mg x = none) (hv : bootBuiltins x = some (.type T)) (hg : Gl X x := by rfl) (hn : x ≠ "__name__" := by decide) (hd : (x == ("__debug__" : Str)) = false := by decide) :
    PE X (.Name x pos) (tC (.ty T)) := pe_bltn hg hm hv rfl hn hd
inductive Kn (H : Hp) : V → String → Prop where
  | non : Kn H .non "NoneType"
  | bl (b : Bool) : Kn H (.bl b) "bool"
  | int (i : Int) : Kn H (.int i) "int"
  | str (x : Str) : Kn H (.str x) "str"
  | lst {a : Addr} {xs : List V} (e : H a = some (.lst xs)) : Kn H (.ref a) "list"
  | tup {a : Addr} {xs : List V} (e : H a = some (.tup xs)) : Kn H (.ref a) "tuple"
  | dict {a : Addr} {kvs : List (Key × V)} (e : H a = some (.dK kvs)) : Kn H (.ref a) "dict"
theorem Kn.ty {K : PySem.W.Frag} {H : Hp} {x : V} {t : String} (k : Kn H x t) : TyOf K H x (.type t) := by
  cases k with
  | non => exact .non
  | bl b => exact .bl b
  | int i => exact .int i
  | str x => exact .str x
  | lst e => exact .lst e
  | tup e => exact .tup e
  | dict e => exact .dK e
def isSub (t T : String) : Bool := t == T || (t == "bool" && T == "int")
def Nice (T : String) : Prop := T = "int" ∨ T = "bool" ∨ T = "tuple" ∨ T = "list" ∨ T = "str"
theorem kit_of (K : PySem.W.Frag) {H : Hp} {x : V} {t T : String} (k : Kn H x t) (n : Nice T) : PySem.W.kitOne K (.type t) (.type T) = some (isSub t T) := by
  rcases n with rfl | rfl | rfl | rfl | rfl <;> cases k <;> kernel_rfl
theorem call_isinst {X : Cx} : CallR X (.builtin "isinstance") (fun xs H Q => ∃ x t T,xs = [x,.ty T] ∧ Kn H x t ∧ Nice T ∧ Q (.bl (isSub t T)) H) := by
  intro pins s σ H xs us Q I rs h
  obtain ⟨x,t,T,rfl,k,n,q⟩ := h
  obtain ⟨u,v,rfl,ru,rv⟩ := vals2 rs
  cases (show v = Value.type T from rv)
  exact isinst_ok I ru k.ty (kit_of X.K k n) fun tk => ⟨.bl _,H,I.tok _,rfl,q⟩
structure Fn (P : Program) (w : World) (K : PySem.W.Frag) (mg : Str → Option Value) (base : Heap) (x : Str) (ps : List Str) (k : Nat) (sp : Sp) : Prop where
  ex : ∃ (f : Addr) (fd : FuncData) (o : Obj),mg x = some (.ref f) ∧ PySem.W.keepIn K (.ref f) = true ∧ (∀ us : List Value,us.length = ps.length → bindArgs fd ⟨us,[]⟩ = pure (ps.zip us)) ∧ (K.lookup f = some o ∧ o.data = .func fd) ∧ FnOk P w K mg base CX0 k f fd ps sp
theorem pe_fn {X : Cx} {x : Str} {ps : List Str} {k : Nat} {sp : Sp} {p pos : Pos} {e : Expr} {es : List Expr} {t : TA} (F : Fn X.prog X.w X.K X.mg X.base x ps k sp) (hr : Room k X.A) (hg : Gl X x) (ha : PA X (e :: es) t)
    (hdb : (x == ("__debug__" : Str)) = false := by decide) (he : starEach (e :: es) X.env = (false,eval e X.env) :: starEach es X.env := by rfl) (hpl : (backTo pos (starEach es X.env)).any (·.1) = false := by rfl) :
    PE X (.Call (.Name x p) (e :: es) [] pos) (tCall sp [] E0 t) := by
  obtain ⟨f,fd,o,hm,hk,hb,_,G⟩ := F.ex
  exact pe_call G hr hg hm hk (.all hb) .nil pass0 ha hdb he hpl
structure Df (K : PySem.W.Frag) (mg : Str → Option Value) (x : Str) (st : Stmt) : Prop where
  ex : ∃ (f : Addr) (oc : Value) (od : Option Addr) (kV doc pm : Value) (an : Option Addr) (cdv ct : Value) (osl : Array (Option Value)),
    mg x = some (.ref f) ∧ K.lookup f = some ⟨oc,od,.func (PySem.W.fnOf x x (defArgs st) (defBody st) (defScope st) .none kV doc pm an cdv ct),osl⟩ ∧ PySem.W.codeIn K cdv x = true ∧ PySem.W.keepIn K (.ref f) = true
theorem df_mk {K : PySem.W.Frag} {mg : Str → Option Value} {h : Heap} {x : Str} {st : Stmt} {f : Addr} {oc : Value} {od an : Option Addr} {osl : Array (Option Value)} {kV doc pm cdv ct : Value} (X : K.In h) (G : h.Ns mainGlobals mg)
    (a : PySem.W.nsIn K mainGlobals x = some (some (.ref f))) (l : K.lookup f = some ⟨oc,od,.func (PySem.W.fnOf x x (defArgs st) (defBody st) (defScope st) .none kV doc pm an cdv ct),osl⟩) (c : PySem.W.codeIn K cdv x = true) (k : PySem.W.keepIn K (.ref f) = true) :
    Df K mg x st := ⟨⟨f,oc,od,kV,doc,pm,an,cdv,ct,osl,PySem.W.mg_of X G a,l,c,k⟩⟩
theorem Df.fn {P : Program} {w : World} {K : PySem.W.Frag} {mg : Str → Option Value} {base : Heap} {x : Str} {st : Stmt} {N ps : List Str} {k : Nat} {sp : Sp} (D : Df K mg x st) (S : FnScope N ps (defScope st))
    (hbind : ∀ (kV doc pm : Value) (an : Option Addr) (cdv ct : Value) (us : List Value),us.length = ps.length → bindArgs (PySem.W.fnOf x x (defArgs st) (defBody st) (defScope st) .none kV doc pm an cdv ct) ⟨us,[]⟩ = pure (ps.zip us))
    (len : ∀ vs H Q E,sp vs H Q E → vs.length = ps.length)
    (hbody : ∀ (f : Addr) (cdv : Value) (A : Around) (outer : List Env) (s : Shared) (H : Hp) (vs : List V) (Q : VK) (E : XK),Room k (A.deeper (envOfC x (defScope st) s.heap.objs.size f cdv)) → sp vs H Q E →
      ∃ t,PSs (cxOf CX0 P w K mg base N x (defScope st) f cdv A outer s H E).nox (defBody st) t ∧ t { nx := fun _ H' => Q .non H',rt := Q } (start N vs) H) : Fn P w K mg base x ps (k + 1) sp := by
  obtain ⟨f,oc,od,kV,doc,pm,an,cdv,ct,osl,hm,lk,hcd,hk⟩ := D.ex
  refine ⟨⟨f,_,_,hm,hk,hbind kV doc pm an cdv ct,⟨lk,rfl⟩,fn_of lk hcd S len fun A outer s H vs Q E hr hsp => ?_⟩⟩
  obtain ⟨t,h,q⟩ := hbody f cdv A outer s H vs Q E hr hsp
  exact ⟨t,h.nox,q⟩
theorem law_fd {P : Program} {w : World} {K : PySem.W.Frag} {mg : Str → Option Value} {fa : Addr} {k : Nat} {sp : Sp} (h : Heap) (hfa : mg "law" = some (.ref fa)) (F : ∀ base : Heap,Fn P w K mg base "law" ["script"] k sp) :
    ∃ fd : FuncData,(∀ (s : Shared) (v : Value),BindsTo s fd ⟨[v],[]⟩ [("script",v)]) ∧ ∀ base : Heap,K.In base → base.Ns mainGlobals mg → FnOk P w K mg base CX0 k fa fd ["script"] sp := by
  obtain ⟨f,fd,o,hm,_,hb,⟨hl,hd⟩,_⟩ := (F h).ex
  rw [hfa] at hm
  cases hm
  refine ⟨fd,fun s v => .of_eq (hb [v] rfl),fun base _ _ => ?_⟩
  obtain ⟨f',fd',o',hm',_,_,⟨hl',hd'⟩,G⟩ := (F base).ex
  rw [hfa] at hm'
  cases hm'
  rw [hl] at hl'
  cases hl'
  rw [hd] at hd'
  cases hd'
  exact G
def spLaw (K : PySem.W.Frag) : Sp := fun vs H Q _ => ∃ (a : Addr) (ns : List Int),vs = [.ref a] ∧ SqL K H a (ns.map V.int) ∧ ns.length ≤ 63 ∧ ∀ H',Q (.bl true) H'
theorem law_walk {l : PySem.W.OpenLaw} {k : Nat} {q : Program} {loose : List Str} {XP : (Str → Option Value) → Heap → Prop} {YP : World → Heap → Prop} {d : DefRec} {K : Params → PySem.W.Frag} (hk : Room k callerA) (hn : l.most = some 63) (hdf : d.params.defaults = [])
    (hY : ∀ (w : World) (h : Heap),YP w h → (K w.params).In h)
    (F : ∀ (w : World) (mg : Str → Option Value) (fa : Addr) (h : Heap),(K w.params).In h → h.Ns mainGlobals mg → mg d.name = some (.ref fa) →
      ∃ fd : FuncData,(∀ (s : Shared) (u : Value),BindsTo s fd ⟨[u],[]⟩ [("script",u)]) ∧ ∀ base : Heap,(K w.params).In base → base.Ns mainGlobals mg → FnOk l.prog w (K w.params) mg base CX0 k fa fd ["script"] (spLaw (K w.params))) :
    PySem.W.WalkO q loose XP YP l.row.toRowW d [] (fun f vs => PySem.call f vs) :=
  L2.walk_of (n := 63) (k := k) (x := "script") (CX := fun _ => CX0) (sp := fun w => spLaw (K w.params)) hn (by decide) hdf hk hY F (fun _ _ a ns hl _ hS => ⟨a,ns,rfl,hS,hl,fun _ => rfl⟩) fun _ _ _ _ _ z => z
theorem Same.new {H : Hp} {p : Addr} {o : HO} (h : H p = none) : Same H (upd H p o) := fun b o' e => by
  rw [upd_ne (ne_of_none e h)]
  exact e
theorem ite3 {c : Bool} {A B : Prop} (h1 : c = true → A) (h2 : c = false → B) : if c = true then A else B := by
  cases c with
  | true => exact iteT (h1 rfl)
  | false => exact iteF (h2 rfl)
theorem iteFalse {b : Bool} {A B : Prop} (hb : b = false) (h : B) : if b = true then A else B := by
  subst hb
  exact iteF h
theorem iteTrue {b : Bool} {A B : Prop} (hb : b = true) (h : A) : if b = true then A else B := by
  subst hb
  exact iteT h
def forBody (s : Stmt) : List Stmt := match s with
  | .For _ _ b _ _ => b
  | _ => []
def isIntV : V → Bool
  | .int _ => true
  | _ => false
end L2
namespace Sp1
open PySem PySem.Spec L2 Mth
def spWhole : Sp := fun vs H Q _ => ∃ x t,vs = [x] ∧ Kn H x t ∧ Q (.bl (isIntV x)) H
def spGcd : Sp := fun vs H Q _ => ∃ a b : Int,vs = [.int a,.int b] ∧ Q (.int (Int.gcd a b : Int)) H
def lowB (a b : Int) : Bool := decide (1 ≤ b) && decide (Int.gcd a b = 1)
def lowL : List V → Bool
  | [.int a,.int b] => lowB a b
  | _ => false
def lowV (H : Hp) : V → Bool
  | .ref p => match H p with
    | some (.tup xs) => lowL xs
    | _ => false
  | _ => false
structure Thing (H : Hp) (x : V) : Prop where
  kn : ∃ t,Kn H x t
  parts : ∀ p xs,x = .ref p → H p = some (.tup xs) → ∀ y ∈ xs,∃ t,Kn H y t
def spLow : Sp := fun vs H Q _ => ∃ x,vs = [x] ∧ Thing H x ∧ Q (.bl (lowV H x)) H
theorem whole_sub {H : Hp} {x : V} {t : String} (k : Kn H x t) : (isSub t "int" = true → (!isSub t "bool") = isIntV x) ∧ (isSub t "int" = false → isIntV x = false) := by
  cases k with
  | non => exact ⟨fun h => absurd h (by decide),fun _ => rfl⟩
  | bl b => exact ⟨fun _ => (show (!isSub "bool" "bool") = false by decide),fun h => absurd h (by decide)⟩
  | int i => exact ⟨fun _ => (show (!isSub "int" "bool") = true by decide),fun h => absurd h (by decide)⟩
  | str x => exact ⟨fun h => absurd h (by decide),fun _ => rfl⟩
  | lst e => exact ⟨fun h => absurd h (by decide),fun _ => rfl⟩
  | tup e => exact ⟨fun h => absurd h (by decide),fun _ => rfl⟩
  | dict e => exact ⟨fun h => absurd h (by decide),fun _ => rfl⟩
theorem abs_nonneg (a : Int) : 0 ≤ (if a < 0 then -a else a) := by split <;> omega
theorem Kn.cases_int {H : Hp} {y : V} {t : String} (k : Kn H y t) : (∃ a,y = .int a ∧ t = "int") ∨ ((∀ a,y ≠ .int a) ∧ isIntV y = false) := by
  cases k with
  | int a => exact .inl ⟨a,rfl,rfl⟩
  | non => exact .inr ⟨fun a e => (nomatch e),rfl⟩
  | bl b => exact .inr ⟨fun a e => (nomatch e),rfl⟩
  | str x => exact .inr ⟨fun a e => (nomatch e),rfl⟩
  | lst e => exact .inr ⟨fun a e => (nomatch e),rfl⟩
  | tup e => exact .inr ⟨fun a e => (nomatch e),rfl⟩
  | dict e => exact .inr ⟨fun a e => (nomatch e),rfl⟩
theorem Kn.cases_tup {H : Hp} {y : V} {t : String} (k : Kn H y t) : (∃ p xs,y = .ref p ∧ H p = some (.tup xs) ∧ t = "tuple") ∨ (lowV H y = false ∧ isSub t "tuple" = false) := by
  cases k with
  | tup e => exact .inl ⟨_,_,rfl,e,rfl⟩
  | non => exact .inr ⟨rfl,by decide⟩
  | bl b => exact .inr ⟨rfl,by decide⟩
  | str x => exact .inr ⟨rfl,by decide⟩
  | int a => exact .inr ⟨rfl,by decide⟩
  | lst e => exact .inr ⟨by simp only [lowV,e],by decide⟩
  | dict e => exact .inr ⟨by simp only [lowV,e],by decide⟩
theorem lowV_tup {H : Hp} {p : Addr} {xs : List V} (e : H p = some (.tup xs)) : lowV H (.ref p) = lowL xs := by simp only [lowV,e]
theorem lowL_len {xs : List V} (h : xs.length ≠ 2) : lowL xs = false := by
  unfold lowL
  split
  · exact absurd rfl h
  · rfl
theorem lowL_fst {y z : V} (h : ∀ a,y ≠ .int a) : lowL [y,z] = false := by
  unfold lowL
  split
  · rename_i a b e
    cases e
    exact absurd rfl (h a)
  · rfl
theorem lowL_snd {y z : V} (h : ∀ a,z ≠ .int a) : lowL [y,z] = false := by
  unfold lowL
  split
  · rename_i a b e
    cases e
    exact absurd rfl (h b)
  · rfl
theorem sz {n : Nat} (h : n ≤ 1000) : n ≤ sizeLine := Nat.le_of_lt (small1000 h)
theorem atI_mem {α : Type} {xs : List α} {k : Int} (h0 : 0 ≤ k) (h1 : k < (xs.length : Int)) : ∃ v,atI xs k = some v ∧ v ∈ xs := by
  have hk : k.toNat < xs.length := by omega
  have ek : k = ((k.toNat : Nat) : Int) := by omega
  have q := atI_nat (xs := xs) (j := k.toNat) (List.getElem?_eq_getElem hk)
  rw [← ek] at q
  exact ⟨xs[k.toNat],q,List.getElem_mem hk⟩
theorem gcd_bits2 {a b : Int} {n : Nat} (hb : b ≠ 0) (h : bits b ≤ n) : bits (Int.gcd a b : Int) ≤ n := by
  refine bits_mono ?_ h
  have h1 : (Int.gcd a b) ∣ b.natAbs := Int.gcd_dvd_natAbs_right a b
  have h2 := Nat.le_of_dvd (by omega) h1
  omega
end Sp1
namespace L2
open PySem PySem.Spec PyProof.Rows
section
variable {X : Cx}
end
end L2
namespace L2
open PySem PySem.Spec PyProof.Rows
section
variable {prog : Program} {w : World} {A : Around} {E : Value → Shared → Prop}
end
end L2
namespace L2
open PySem PySem.Spec PyProof.Rows
theorem ObjOk.has {P : Program} {w : World} {H : Hp} {h : Heap} {a : Addr} {o : HO} (x : ObjOk P w H h a o) : ∃ ob,h.get? a = some ob := by
  cases o with
  | lst xs => obtain ⟨_,_,_,_,e⟩ := x; exact ⟨_,e⟩
  | tup xs => obtain ⟨_,_,_,ob,e,_⟩ := x; exact ⟨_,e⟩
  | dK kvs => obtain ⟨_,_,_,_,ob,_,_,e,_⟩ := x; exact ⟨_,e⟩
  | dT kvs => obtain ⟨_,_,_,_,ob,_,_,e,_⟩ := x; exact ⟨_,e⟩
  | set S n => obtain ⟨ob,_,_,_,e,_⟩ := x; exact ⟨_,e⟩
  | ins C dx fs => obtain ⟨_,_,_,e,_⟩ := x; exact ⟨_,e⟩
  | own y => obtain ⟨ob,e⟩ := x; exact ⟨_,e⟩
  | xd fs => obtain ⟨_,⟨od,_,_,e,_⟩,_⟩ := x; exact ⟨_,e⟩
  | rng lo hi => obtain ⟨_,_,_,e⟩ := x; exact ⟨_,e⟩
  | frz ob u => obtain ⟨e,_⟩ := x; exact ⟨_,e⟩
  | tbl ps => exact ⟨_,(show h.get? a = some _ from x)⟩
  | met f y => exact ⟨_,(show h.get? a = some _ from x)⟩
  | ext φ => obtain ⟨_,⟨ob,e⟩,_⟩ := x; exact ⟨_,e⟩
structure Big (B : Heap) (fs : List Addr) (H' : Hp) (h : Heap) : Prop where
  tr : ∀ b o,H' b = some o → ∃ ob,B.get? b = some ob
  old : ∀ b o,h.get? b = some o → b ∉ fs → ∃ ob,B.get? b = some ob
section
variable {P : Program} {w : World} {fs fs' : List Addr} {H H1 H' : Hp} {h h1 h2 B : Heap}
theorem Un.fly (un : Un fs [] H H' h h1) (big : Big B fs H' h) (st1 : B.StaysIn h1) (st2 : B.StaysIn h2) (sl : h1.UpToSlots h2)
    (fr : ∀ b ∈ fs,H b = none ∧ ∀ o,h1.get? b = some o → ∀ vs,o.data ≠ .fields vs) : Un fs [] H H' h h2 where
  keep := fun b o e n hb hx => by
    have e1 := un.keep b o e n hb hx
    obtain ⟨ob,eb⟩ := big.old b o e hb
    have e2 := st1 b ob eb
    rw [e1] at e2
    cases e2
    exact st2 b _ eb
  slot := fun b o e n hb hx => by
    obtain ⟨s1,e1⟩ := un.slot b o e n hb hx
    obtain ⟨s2,e2⟩ := sl b _ e1 ((fr b hb).2 _ e1)
    exact ⟨s2,e2⟩
  free := un.free
  there := fun b o e hx => by
    by_cases hb : b ∈ fs
    · obtain ⟨s1,e1⟩ := un.slot b o e (fr b hb).1 hb hx
      obtain ⟨s2,e2⟩ := sl b _ e1 ((fr b hb).2 _ e1)
      exact ⟨_,e2⟩
    · obtain ⟨ob,eb⟩ := big.old b o e hb
      exact ⟨_,st2 b ob eb⟩
  tups := un.tups
  frzs := un.frzs
  tbls := un.tbls
theorem HOk.fly (hok : HOk P w H' h1) (big : Big B fs H' h) (st1 : B.StaysIn h1) (st2 : B.StaysIn h2) : HOk P w H' h2 := fun a o e => by
  refine (hok a o e).stay (fun b u hb q => ?_) (fun _ q => q) fun _ _ q => q
  have hb' : ∃ ob,B.get? b = some ob := by
    rcases hb with z | z
    · rw [z]
      exact big.tr a o e
    · exact big.tr b _ z
  obtain ⟨ob,eb⟩ := hb'
  have e2 := st1 b ob eb
  rw [q] at e2
  cases e2
  exact st2 b _ eb
theorem Un.shed (a : Un fs [] H H1 h h1) (b : Un fs' [] H1 H' h1 h2) (sub : ∀ x ∈ fs,x ∈ fs') (out : ∀ x o,h.get? x = some o → x ∈ fs' → x ∈ fs) : Un fs [] H H' h h2 where
  keep := fun x o e n hx hn => b.keep x o (a.keep x o e n hx hn) (a.free x o e n hn) (fun z => hx (out x o e z)) hn
  slot := fun x o e n hx hn => by
    obtain ⟨s1,e1⟩ := a.slot x o e n hx hn
    obtain ⟨s2,e2⟩ := b.slot x _ e1 (a.free x o e n hn) (sub x hx) hn
    exact ⟨s2,e2⟩
  free := fun x o e n hn => by
    obtain ⟨o1,e1⟩ := a.there x o e hn
    exact b.free x o1 e1 (a.free x o e n hn) hn
  there := fun x o e hn => by
    obtain ⟨o1,e1⟩ := a.there x o e hn
    exact b.there x o1 e1 hn
  tups := fun x xs e => b.tups x xs (a.tups x xs e)
  frzs := fun x o xs e => b.frzs x o xs (a.frzs x o xs e)
  tbls := fun x ps e => by
    obtain ⟨m1,e1⟩ := a.tbls x ps e
    obtain ⟨m2,e2⟩ := b.tbls x _ e1
    exact ⟨m1 ++ m2,by rw [e2,Array.append_assoc]⟩
end
def CXE (P : Program) (w : World) : CXT := fun outer H s E e s' => ∃ (ea t : Addr) (cls : Value) (H' : Hp) (B : Heap),
  e = .ref ea ∧ s'.os = s.os ∧ AllBare s'.gens ∧ Un (frs outer) [] H H' s.heap s'.heap ∧ HOk P w H' s'.heap ∧ Heap.FlyingW B outer ea cls (.ref t) s'.heap ∧ Big B (frs outer) H' s.heap ∧ E cls none H'
section
variable {P : Program} {w : World} {K : PySem.W.Frag} {mg : Str → Option Value} {base : Heap} {N : List Str} {qual : Str} {scope : Scope} {f : Addr} {cdv : Value} {A : Around} {outer : List Env} {s₀ : Shared} {H₀ : Hp} {E : XK}
theorem frs_cons {env : Env} {L : Addr} (hf : env.frame = some L) (l : List Env) : frs (env :: l) = L :: frs l := by
  unfold frs
  rw [List.filterMap_cons,hf]
theorem raised {pins : List (Addr × Obj)} {σ : St} {H : Hp} {s : Shared} {h' : Heap} {e : Addr} {cls : Value} {vs : List Value} (I : Inv (cxOf (CXE P w) P w K mg base N qual scope f cdv A outer s₀ H₀ E) pins σ H s)
    (hx : Heap.MadeExcOf s.heap h' e cls vs) (q : E cls none H) : (cxOf (CXE P w) P w K mg base N qual scope f cdv A outer s₀ H₀ E).xe (.ref e) { s with heap := h' } := by
  have hin : ∀ env ∈ (cxOf (CXE P w) P w K mg base N qual scope f cdv A outer s₀ H₀ E).stack,∀ a,env.frame = some a → a ∈ frs (cxOf (CXE P w) P w K mg base N qual scope f cdv A outer s₀ H₀ E).stack :=
    fun env he a ha => List.mem_filterMap.mpr ⟨env,he,ha⟩
  have neL : ∀ b o,s₀.heap.get? b = some o → b ∉ frs outer → b ∉ frs (cxOf (CXE P w) P w K mg base N qual scope f cdv A outer s₀ H₀ E).stack := fun b o eb hb hm => by
    rcases List.mem_cons.mp (I.stkSub b hm) with z | z
    · exact absurd z (Nat.ne_of_lt (Nat.lt_of_lt_of_le (Heap.lt_size eb) I.ok.above))
    · exact hb z
  refine wpAny_leaves_madeW (base := PySem.W.hideAll s.heap (frs (cxOf (CXE P w) P w K mg base N qual scope f cdv A outer s₀ H₀ E).stack)) (h := s.heap) (L := s₀.heap.objs.size) I.ok.frames rfl (fun b o z => PySem.W.of_hideAll _ z) (PySem.W.funFrames_hide I.stack hin) hx fun h'' t fl _ _ up => ?_
  have big : Big (PySem.W.hideAll s.heap (frs (cxOf (CXE P w) P w K mg base N qual scope f cdv A outer s₀ H₀ E).stack)) (frs outer) H s₀.heap := by
    refine ⟨fun b o eb => ?_,fun b o eb hb => ?_⟩
    · obtain ⟨ob,z⟩ := (I.hok b o eb).has
      refine ⟨ob,PySem.W.hideAll_get _ z fun hm => ?_⟩
      rw [I.stkFree b hm] at eb
      cases eb
    · obtain ⟨ob,z⟩ := I.base.there b o eb (by intro z; cases z)
      exact ⟨ob,PySem.W.hideAll_get _ z (neL b o eb hb)⟩
  have st1 : (PySem.W.hideAll s.heap (frs (cxOf (CXE P w) P w K mg base N qual scope f cdv A outer s₀ H₀ E).stack)).StaysIn s.heap := fun b o z => PySem.W.of_hideAll _ z
  have sl : s.heap.UpToSlots h'' := (Heap.UpToSlots.of_keeps hx.keeps).trans up
  exact ⟨e,t,cls,H,_,rfl,I.os,I.bare,Un.fly I.base big st1 fl.1 sl fun b hb => ⟨I.ok.frf b hb,fun o eo => by
      obtain ⟨_,o',eo',nf⟩ := I.funs.mem hb
      rw [eo] at eo'
      cases eo'
      exact nf⟩,HOk.fly I.hok big st1 fl.1,fl,big,q⟩
theorem pass_on {E1 : XK} (hE : ∀ c o H',E1 c o H' → E c o H') : Passes (CXE P w) (cxOf (CXE P w) P w K mg base N qual scope f cdv A outer s₀ H₀ E) E1 := by
  intro pins σ H s e s' I h
  obtain ⟨ea,t,cls,H',B,rfl,os,bare,un,hok,fl,big,q⟩ := h
  refine wpAny_leaves_onW (L := s₀.heap.objs.size) I.ok.frames rfl fl fun h'' fl' up => ?_
  have out : ∀ x o,s₀.heap.get? x = some o → x ∈ frs (cxOf (CXE P w) P w K mg base N qual scope f cdv A outer s₀ H₀ E).stack → x ∈ frs outer := fun x o ex hm => by
    rcases List.mem_cons.mp (I.stkSub x hm) with z | z
    · exact absurd z (Nat.ne_of_lt (Nat.lt_of_lt_of_le (Heap.lt_size ex) I.ok.above))
    · exact z
  have sub : ∀ x ∈ frs outer,x ∈ frs (cxOf (CXE P w) P w K mg base N qual scope f cdv A outer s₀ H₀ E).stack := fun x hx => by
    show x ∈ frs (_ :: outer)
    rw [frs_cons (L := s₀.heap.objs.size) rfl]
    exact List.mem_cons_of_mem _ hx
  have un1 : Un (frs outer) [] H₀ H' s₀.heap s'.heap := Un.shed I.base un sub out
  have big1 : Big B (frs outer) H' s₀.heap := by
    refine ⟨big.tr,fun b o eb hb => ?_⟩
    obtain ⟨ob,z⟩ := I.base.there b o eb (by intro z; cases z)
    exact big.old b ob z fun hm => hb (out b o eb hm)
  refine ⟨ea,t,cls,H',B,rfl,os.trans I.os,bare,Un.fly un1 big1 fl.1 fl'.1 up fun b hb => ⟨I.ok.frf b hb,fun o eo => ?_⟩,HOk.fly hok big1 fl.1 fl'.1,fl',big1,hE _ _ _ q⟩
  obtain ⟨_,o',eo',nf⟩ := fl'.2.2.1.mem hb
  obtain ⟨_,o2,eo2,nf2⟩ := fl.2.2.1.mem (sub b hb)
  rw [eo] at eo2
  cases eo2
  exact nf2
end
structure ExcC (K : PySem.W.Frag) (mg : Str → Option Value) (x : Str) (C : Addr) : Prop where
  bound : mg x = some (.ref C)
  obj : ∀ h : Heap,K.In h → ∃ bm N nm qn bs hd sn sub ab col dd k0 k1 k2 k3 k5 mN,h.get? C = some (excClassObj nm qn C N bs bm hd sn sub ab col dd k0 k1 k2 k3 k5 "ValueError.__new__") ∧ h.Ns N mN ∧ mN "__init__" = none ∧
    OwnTail h [.type "ValueError",.type "Exception",.type "BaseException",.type "object"] bm
theorem exc_obj {K : PySem.W.Frag} {h : Heap} {C : Addr} {bmB : List Value} {newId : String} (X : K.In h) (q : PySem.W.excIn K C bmB newId = true) :
    ∃ bm N nm qn bs hd sn sub ab col dd k0 k1 k2 k3 k5 mN,h.get? C = some (excClassObj nm qn C N bs bm hd sn sub ab col dd k0 k1 k2 k3 k5 newId) ∧ h.Ns N mN ∧ mN "__init__" = none ∧ OwnTail h bmB bm := by
  unfold PySem.W.excIn at q
  split at q
  next dct cl sls look =>
    split at q
    next C2 bms a0 a1 a2 a3 nid a5 hmro hsls =>
      simp only [Bool.not_eq_true',beq_iff_eq,Bool.and_eq_true] at q
      obtain ⟨⟨⟨⟨⟨q1,q2⟩,q3⟩,q4⟩,q5⟩,q6⟩ := q
      subst q1 q2
      obtain ⟨c1,c2,c3,c4,c5,c6,c7,c8,c9,c10,c11⟩ := cl
      dsimp only at hmro q3 q5 q6
      subst hmro q3
      obtain ⟨lst⟩ := sls
      simp only at hsls
      subst hsls
      exact ⟨bms,c4,c1,c5,c2,c6,c7,c8,c9,c10,dct,a0,a1,a2,a3,a5,_,X _ _ look,.of_isNs (PySem.W.isNs_of_in X q5),PySem.W.nsMap_none_of_in X q5 q6,PySem.W.tail_of_in X q4⟩
    next => cases q
  next => cases q
theorem exc_mk {K : PySem.W.Frag} {mg : Str → Option Value} {h : Heap} {x : Str} {C : Addr} (X : K.In h) (G : h.Ns mainGlobals mg) (a : PySem.W.nsIn K mainGlobals x = some (some (.ref C)))
    (q : PySem.W.excIn K C [.type "ValueError",.type "Exception",.type "BaseException",.type "object"] "ValueError.__new__" = true) : ExcC K mg x C := ⟨PySem.W.mg_of X G a,fun _ Y => exc_obj Y q⟩
section
variable {P : Program} {w : World} {K : PySem.W.Frag} {mg : Str → Option Value} {base : Heap} {N : List Str} {qual : Str} {scope : Scope} {f : Addr} {cdv : Value} {A : Around} {outer : List Env} {s₀ : Shared} {H₀ : Hp} {E : XK}
theorem ps_raise {x : Str} {C : Addr} {np cpos pos : Pos} (O : ExcC K mg x C) (hg : Gl (cxOf (CXE P w) P w K mg base N qual scope f cdv A outer s₀ H₀ E) x) (hdb : (x == ("__debug__" : Str)) = false := by decide) :
    PS (cxOf (CXE P w) P w K mg base N qual scope f cdv A outer s₀ H₀ E) (.Raise (some (.Call (.Name x np) [] [] cpos)) none pos) (fun _ _ H => E (.ref C) none H) := by
  intro pins s σ H D I h
  obtain ⟨bm,N',nm,qn,bs,hd,sn,sub,ab,col,dd,k0,k1,k2,k3,k5,mN,hC,hN,hni,T⟩ := O.obj s.heap I.kIn
  refine wpAny_Raise_call_subT (C := C) (nm := nm) (q := qn) (N := N') (bs := bs) (bm := bm) (hdct := hd) (sn := sn) (sub := sub) (ab := ab) (col := col) (dd := dd) (k0 := k0) (k1 := k1) (k2 := k2) (k3 := k3) (k5 := k5) PySem.F.excBase_ValueError (mN := mN) (T.hasType (by decide +kernel)) (I.ok.hd rfl) rfl hni (ld_glob I hg O.bound ⟨rfl,?_⟩ hdb)
  exact evalArgs_empty ⟨rfl,Nat.zero_le _,hC,hN,T,fun h' e hx => raised I hx h⟩
end
abbrev Cx.inH (X : Cx) (e : Addr) : Cx := { X with A := X.A.mark (some (.ref e)),calm := false,xe := fun _ _ => False }
theorem Inv.inH {X : Cx} {pins : List (Addr × Obj)} {σ : St} {H : Hp} {s : Shared} (I : Inv X pins σ H s) (e : Addr) : Inv (X.inH e) pins σ H s :=
  ⟨⟨I.ok.mod,I.ok.kind,I.ok.glob,I.ok.blt,I.ok.above,I.ok.inj,I.ok.has,I.ok.cab,(fun z => by cases z),I.ok.frames,I.ok.stk,I.ok.exf,I.ok.bs,I.ok.bsz,I.ok.noex,I.ok.exfs,I.ok.funs,I.ok.frf⟩,
    I.os,I.bare,I.base,I.loc,I.cell,I.free,I.freeC,I.pin,I.hok,I.len⟩
theorem Inv.outH {X : Cx} {e : Addr} {pins : List (Addr × Obj)} {σ : St} {H : Hp} {s : Shared} (ok : X.Ok) (I : Inv (X.inH e) pins σ H s) : Inv X pins σ H s :=
  ⟨ok,I.os,I.bare,I.base,I.loc,I.cell,I.free,I.freeC,I.pin,I.hok,I.len⟩
section
variable {X : Cx}
end
abbrev TX := (Value → St → Hp → Prop) → TS
def XP (X : Cx) (pins : List (Addr × Obj)) (R : Value → St → Hp → Prop) (ev : Value) (s' : Shared) : Prop :=
  ∃ (s₁ : Shared) (σ₁ : St) (H₁ : Hp) (E1 : XK),Inv X pins σ₁ H₁ s₁ ∧ CXE X.prog X.w X.stack H₁ s₁ E1 ev s' ∧ ∀ c o H',E1 c o H' → R c σ₁ H'
def PX (X : Cx) (st : Stmt) (t : TX) : Prop :=
  ∀ (pins : List (Addr × Obj)) (s : Shared) (σ : St) (H : Hp) (D : Ends) (R : Value → St → Hp → Prop),Inv X pins σ H s → t R D σ H → wpAny (model X.prog X.w) X.A (exec st X.env) (SP X pins D) (XP X pins R) s
def PXs (X : Cx) (st : List Stmt) (t : TX) : Prop :=
  ∀ (pins : List (Addr × Obj)) (s : Shared) (σ : St) (H : Hp) (D : Ends) (R : Value → St → Hp → Prop),Inv X pins σ H s → t R D σ H → wpAny (model X.prog X.w) X.A (execs st X.env) (SP X pins D) (XP X pins R) s
structure Fx (P : Program) (w : World) (K : PySem.W.Frag) (mg : Str → Option Value) (base : Heap) (x : Str) (ps : List Str) (k : Nat) (ds : List V) (sp : Sp) : Prop where
  ex : ∃ (f : Addr) (fd : FuncData) (its : List Value),mg x = some (.ref f) ∧ PySem.W.keepIn K (.ref f) = true ∧ Binds K fd ps [] ∧ Binds K fd ps its ∧ Vals ds its ∧ FnOk P w K mg base (CXE P w) k f fd ps sp
theorem Df.fx {P : Program} {w : World} {K : PySem.W.Frag} {mg : Str → Option Value} {base : Heap} {x : Str} {st : Stmt} {N ps : List Str} {k : Nat} {sp : Sp} (D : Df K mg x st) (S : FnScope N ps (defScope st))
    (hbind : ∀ (kV doc pm : Value) (an : Option Addr) (cdv ct : Value) (us : List Value),us.length = ps.length → bindArgs (PySem.W.fnOf x x (defArgs st) (defBody st) (defScope st) .none kV doc pm an cdv ct) ⟨us,[]⟩ = pure (ps.zip us))
    (len : ∀ vs H Q E,sp vs H Q E → vs.length = ps.length)
    (hbody : ∀ (f : Addr) (cdv : Value) (A : Around) (outer : List Env) (s : Shared) (H : Hp) (vs : List V) (Q : VK) (E : XK),Room k (A.deeper (envOfC x (defScope st) s.heap.objs.size f cdv)) → sp vs H Q E →
      ∃ t,PSs (cxOf (CXE P w) P w K mg base N x (defScope st) f cdv A outer s H E) (defBody st) t ∧ t { nx := fun _ H' => Q .non H',rt := Q } (start N vs) H) : Fx P w K mg base x ps (k + 1) [] sp := by
  obtain ⟨f,oc,od,kV,doc,pm,an,cdv,ct,osl,hm,lk,hcd,hk⟩ := D.ex
  have hb : Binds K (PySem.W.fnOf x x (defArgs st) (defBody st) (defScope st) .none kV doc pm an cdv ct) ps [] := .all (hbind kV doc pm an cdv ct)
  exact ⟨⟨f,_,[],hm,hk,hb,hb,.nil,fn_of lk hcd S len fun A outer s H vs Q E hr hsp => hbody f cdv A outer s H vs Q E hr hsp⟩⟩
theorem pe_fx {P : Program} {w : World} {K : PySem.W.Frag} {mg : Str → Option Value} {base : Heap} {N : List Str} {qual : Str} {scope : Scope} {f : Addr} {cdv : Value} {A : Around} {outer : List Env} {s₀ : Shared} {H₀ : Hp} {E : XK}
    {x : Str} {ps : List Str} {k : Nat} {ds : List V} {sp : Sp} {p pos : Pos} {e : Expr} {es : List Expr} {t : TA} (F : Fx P w K mg base x ps k ds sp) (hr : Room k (cxOf (CXE P w) P w K mg base N qual scope f cdv A outer s₀ H₀ E).A) (hg : Gl (cxOf (CXE P w) P w K mg base N qual scope f cdv A outer s₀ H₀ E) x)
    (ha : PA (cxOf (CXE P w) P w K mg base N qual scope f cdv A outer s₀ H₀ E) (e :: es) t)
    (hdb : (x == ("__debug__" : Str)) = false := by decide) (he : starEach (e :: es) (cxOf (CXE P w) P w K mg base N qual scope f cdv A outer s₀ H₀ E).env = (false,eval e (cxOf (CXE P w) P w K mg base N qual scope f cdv A outer s₀ H₀ E).env) :: starEach es (cxOf (CXE P w) P w K mg base N qual scope f cdv A outer s₀ H₀ E).env := by rfl)
    (hpl : (backTo pos (starEach es (cxOf (CXE P w) P w K mg base N qual scope f cdv A outer s₀ H₀ E).env)).any (·.1) = false := by rfl) :
    PE (cxOf (CXE P w) P w K mg base N qual scope f cdv A outer s₀ H₀ E) (.Call (.Name x p) (e :: es) [] pos) (tCall sp [] E t) := by
  obtain ⟨g,fd,its,hm,hk,hb,_,_,G⟩ := F.ex
  exact pe_call G hr hg hm hk hb .nil (pass_on fun _ _ _ z => z) ha hdb he hpl
theorem pass_none {P : Program} {w : World} {X : Cx} : Passes (CXE P w) X E0 := fun _ _ _ _ _ _ _ h => by
  obtain ⟨_,_,_,_,_,_,_,_,_,_,_,_,q⟩ := h
  exact q.elim
theorem pe_fx0 {X : Cx} {x : Str} {ps : List Str} {k : Nat} {ds : List V} {sp : Sp} {p pos : Pos} {e : Expr} {es : List Expr} {t : TA} (F : Fx X.prog X.w X.K X.mg X.base x ps k ds sp) (hr : Room k X.A) (hg : Gl X x) (ha : PA X (e :: es) t)
    (hdb : (x == ("__debug__" : Str)) = false := by decide) (he : starEach (e :: es) X.env = (false,eval e X.env) :: starEach es X.env := by rfl) (hpl : (backTo pos (starEach es X.env)).any (·.1) = false := by rfl) :
    PE X (.Call (.Name x p) (e :: es) [] pos) (tCall sp [] E0 t) := by
  obtain ⟨g,fd,its,hm,hk,hb,_,_,G⟩ := F.ex
  exact pe_call G hr hg hm hk hb .nil pass_none ha hdb he hpl
section
variable {X : Cx}
theorem run_fx {pins : List (Addr × Obj)} {s : Shared} {σ : St} {H : Hp} {Q : VK} {R : Value → St → Hp → Prop} {x : Str} {ps : List Str} {k : Nat} {ds : List V} {sp : Sp} {p pos : Pos} {e : Expr} {es : List Expr} {t : TA} (I : Inv X pins σ H s)
    (F : Fx X.prog X.w X.K X.mg X.base x ps k ds sp) (hr : Room k X.A) (hg : Gl X x) (ha : PA X.nox (e :: es) t) (q : t σ H fun vs H1 => sp vs H1 Q fun c _ H2 => R c σ H2)
    (hdb : (x == ("__debug__" : Str)) = false) (he : starEach (e :: es) X.env = (false,eval e X.env) :: starEach es X.env) (hpl : (backTo pos (starEach es X.env)).any (·.1) = false) :
    wpAny (model X.prog X.w) X.A (eval (.Call (.Name x p) (e :: es) [] pos) X.env) (EP X pins σ Q) (XP X pins R) s := by
  obtain ⟨f,fd,its,hm,hk,hb,_,_,G⟩ := F.ex
  refine wpAny_Call_Name_kw (ld_glob I hg hm ?_ hdb)
  refine PySem.W.callWith_K (h₀ := X.base) I.ok.mod.kin hk (wpAny_mono (ha pos pins s σ H _ (I.wish _) q) (fun us s1 ⟨vs,H1,J1,r,q1⟩ => ?_) fun _ _ z => False.elim z) he hpl
  have I1 : Inv X pins σ H1 s1 := J1.unwish
  refine ⟨I1.kIn,?_⟩
  have hl : (us ++ []).length = ps.length := by rw [List.append_nil,← r.length]; exact G.len _ _ _ _ q1
  have hbb := hb s1 us I1.kIn hl
  rw [List.append_nil] at hbb
  refine wpAny_call (codeAny_mono (G.run X.A X.stack s1 H1 ⟨us,[]⟩ us vs Q _ hr I1.env0 hbb r q1) fun rr s' hq => ?_)
  cases rr with
  | error ev => exact ⟨s1,σ,H1,(fun c _ H2 => R c σ H2),I1,hq,fun c o H' z => z⟩
  | ok flw =>
    cases flw with
    | ret u => exact I1.after hq
    | next => exact False.elim hq
    | brk => exact False.elim hq
    | cont => exact False.elim hq
variable {x fn : Str} {i : Nat} {ps : List Str} {k : Nat} {ds : List V} {sp : Sp} {e : Expr} {es : List Expr} {ta : TA} {px pf cpos pos : Pos}
theorem px_set (hN : X.N.Nodup) (hi : X.N[i]? = some x) (hx : Loc X.env.scope x) (F : Fx X.prog X.w X.K X.mg X.base fn ps k ds sp) (hr : Room k X.A) (hg : Gl X fn) (ha : PA X.nox (e :: es) ta)
    (hs : swapsWith (.Call (.Name fn pf) (e :: es) [] cpos) (some (.Name x px)) pos.line X.env = pure false := by rfl) (hf : X.fn x = true ∨ X.env.scope.names.lookup x = some .local := by first | exact .inl rfl | exact .inr rfl | assumption)
    (hdb : (fn == ("__debug__" : Str)) = false := by decide) (he : starEach (e :: es) X.env = (false,eval e X.env) :: starEach es X.env := by rfl) (hpl : (backTo cpos (starEach es X.env)).any (·.1) = false := by rfl) :
    PX X (.Assign [.Name x px] (.Call (.Name fn pf) (e :: es) [] cpos) pos) (fun R D σ H => ta σ H fun vs H1 => sp vs H1 (fun v H2 => D.nx (σ.set i (some v)) H2) fun c _ H2 => R c σ H2) := by
  intro pins s σ H D R I h
  refine wpAny_Assign_Name (thn (run_fx I F hr hg ha h hdb he hpl) fun v s1 ⟨y,H1,I1,r1,q1⟩ => ?_) hs
  exact store_ok I1 hN hi hx r1 (fun s2 I2 => ⟨_,H1,I2,q1⟩) hf
theorem pxs_one {st : Stmt} {t : TX} (h1 : PX X st t) : PXs X [st] t := by
  intro pins s σ H D R I h
  refine wpAny_execs_cons (thn (h1 pins s σ H D R I h) fun f s1 q => ?_)
  cases f with
  | next => exact wpAny_execs_nil q
  | ret v => exact q
  | brk => exact q
  | cont => exact q
end
end L2
namespace Sp2
open PySem PySem.Spec L2 Mth Sp1
theorem lowV_two {H : Hp} {p : Addr} {a b : Int} (e : H p = some (.tup [.int a,.int b])) : lowV H (.ref p) = lowB a b := by
  simp only [lowV,e,lowL]
theorem at_int {ns : List Int} {k : Int} (j : Nat) (e : k = (j : Int)) (h : j < ns.length) : atI (ns.map V.int) k = some (.int ns[j]) := by
  subst e
  exact atI_nat (by rw [List.getElem?_map,List.getElem?_eq_getElem h]; rfl)
theorem bits_small {n : Int} (h0 : -1000 ≤ n) (h1 : n ≤ 1000) : bits n ≤ 10 := by
  refine bits_of (n := 10) ?_
  show _ < 1024
  omega
end Sp2
namespace L2
open PySem PySem.Spec PyProof.Rows
end L2
namespace L2
open PySem PySem.Spec PyProof.Rows
abbrev Cx.blk (X : Cx) (N' : List Str) (scope : Scope) (cl : List (Str × Addr)) (fp : List Addr) (s₀ : Shared) (H₀ : Hp) : Cx :=
  { X with N := N',s₀ := s₀,H₀ := H₀,env := compEnvC scope cl s₀.heap.objs.size X.env,outer := X.stack,ex := fp,fn := fun _ => false,pn := [],xe := fun _ _ => False }
theorem lookup_mem {α : Type} {y : Str} {c : α} : ∀ {l : List (Str × α)},l.lookup y = some c → (y,c) ∈ l
  | [],h => by simp at h
  | (n,d) :: r,h => by
    rw [List.lookup_cons] at h
    cases e : y == n with
    | true =>
      rw [e] at h
      cases h
      rw [beq_iff_eq.mp e]
      exact List.mem_cons_self
    | false =>
      rw [e] at h
      exact List.mem_cons_of_mem _ (lookup_mem h)
structure CompN (X : Cx) (scope : Scope) (cl : List (Str × Addr)) (x : Str) (fv : List (Str × Nat)) : Prop where
  clos : closureFor scope X.env = pure cl
  kind : scope.kind = .function
  cell : ∀ y ∈ scope.names,y.2 ≠ .cell
  names : ∀ y ∈ scope.names,y.2 = .local → scope.names.lookup y.1 = some .local
  own : scope.names.lookup x = some .local
  cells : ∀ p ∈ cl,X.env.cells.lookup p.1 = some p.2
  has : ((relabel scope X.env).names.all fun q => !(q.2 == .cell || q.2 == .free) || (cl.lookup q.1).isSome) = true
  nd : (x :: fv.map (·.1)).Nodup
  slot : ∀ p ∈ fv,X.N[p.2]? = some p.1 ∧ X.env.kindOf p.1 = some .cell ∧ Vis X.env.scope p.1 ∧ (cl.lookup p.1).isSome = true ∧ ((relabel scope X.env).names.lookup p.1 = some .cell)
  stk : X.stack = X.env :: X.outer ∧ X.env.frame = some X.env.locals
  noex : X.ex = []
def fvs (fv : List (Str × Nat)) (σ : St) : St := fv.map fun p => (σ[p.2]?).join
def tComp (wi : TI) (fv : List (Str × Nat)) (te : TE) : TE := fun σ H Q => wi σ H fun J H1 => ∀ p,H1 p = none → ∃ W : Nat → Nat → List V → Hp → Prop,(∃ m,W 0 m [] (upd H1 p (.lst []))) ∧ ∀ i m acc H2,W i m acc H2 →
  H2 p = some (.lst acc) ∧ acc.length < sizeLine ∧ ((J.stop i H2 ∧ Q (.ref p) H2) ∨ (J.go i H2 ∧ ∀ x H3,J.yld i H2 x H3 → te (some x :: fvs fv σ) H3 fun y H4 => H4 p = some (.lst acc) ∧ ∃ m',m' < m ∧ W (i + 1) m' (acc ++ [y]) (upd H4 p (.lst (acc ++ [y])))))
section
variable {X : Cx} {scope : Scope} {cl : List (Str × Addr)} {x : Str} {fv : List (Str × Nat)} {elt iter : Expr} {px pos : Pos} {te : TE}
theorem blk_ok {pins : List (Addr × Obj)} {σ : St} {H : Hp} {s : Shared} {fp : List Addr} (C : CompN X scope cl x fv) (I : Inv X pins σ H s) (hf : ∀ b ∈ fp,FpOk X pins H b) (ho : ∀ b ∈ fp,b < s.heap.objs.size) : (X.blk (x :: fv.map (·.1)) scope cl fp s H).Ok := by
  have hcl : ∀ y c,cl.lookup y = some c → X.env.cells.lookup y = some c := fun y c h => C.cells _ (lookup_mem h)
  have old : ∀ b ∈ fp,X.s₀.heap.objs.size ≤ b := fun b hb => by
    rcases (hf b hb).2.2.2.1 with z | z
    · rw [C.noex] at z
      cases z
    · exact z
  refine ⟨I.ok.mod,by show (relabel scope X.env).kind = _; exact C.kind,I.ok.glob,I.ok.blt,Nat.le_refl _,fun y z c h1 h2 => I.ok.inj y z c (hcl y c h1) (hcl z c h2),fun y hy => ?_,(fun y c h => by cases h),I.ok.hd,I.ok.frames,.inl rfl,fun b hb => ?_,fun b o e => I.bs b o e,Nat.le_trans I.ok.bsz I.sz,fun b o e hb => ?_,fun b hb hm => ?_,I.stack,I.stkFree⟩
  · have q := C.has
    rw [List.all_eq_true] at q
    have hm : ∃ k,(y,k) ∈ (relabel scope X.env).names ∧ (k = .cell ∨ k = .free) := by
      rcases hy with hy | hy
      · exact ⟨_,lookup_mem hy,.inl rfl⟩
      · exact ⟨_,lookup_mem hy,.inr rfl⟩
    obtain ⟨k,hk,hk2⟩ := hm
    have q2 := q _ hk
    have q3 : (cl.lookup y).isSome = true := by
      rcases hk2 with rfl | rfl
      · simpa using q2
      · simpa using q2
    exact Option.isSome_iff_exists.mp q3
  · obtain ⟨f0,f1,f2,f3,f4,f5⟩ := hf b hb
    refine ⟨?_,fun y c h => f4 y c (hcl y c h)⟩
    exact Nat.ne_of_lt (ho b hb)
  · have z := Heap.lt_size e
    have z2 := old b hb
    exact absurd (Nat.lt_of_lt_of_le z (Nat.le_trans I.ok.bsz z2)) (Nat.lt_irrefl _)
  · obtain ⟨f0,f1,f2,f3,f4,f5⟩ := hf b hb
    rcases List.mem_cons.mp (I.stkSub b hm) with z | z
    · exact f1 z
    · exact f2 z
theorem blk_inv {pins : List (Addr × Obj)} {σ : St} {H : Hp} {s s4 : Shared} {fp : List Addr} (C : CompN X scope cl x fv) (I : Inv X pins σ H s) (hf : ∀ b ∈ fp,FpOk X pins H b) (ho : ∀ b ∈ fp,b < s.heap.objs.size)
    (hs : s4.os = s.os ∧ s4.gens = s.gens) (ns : s4.heap.Ns s.heap.objs.size fun _ => none) (kp : ∀ b o,s.heap.get? b = some o → s4.heap.get? b = some o) :
    Inv (X.blk (x :: fv.map (·.1)) scope cl fp s H) [] (none :: fvs fv σ) H s4 := by
  have hcl : ∀ y c,cl.lookup y = some c → X.env.cells.lookup y = some c := fun y c h => C.cells _ (lookup_mem h)
  refine ⟨blk_ok C I hf ho,hs.1,by rw [hs.2]; exact I.bare,Un.kept kp,⟨_,ns,fun i y v e1 e2 e3 => ?_⟩,fun y c h => ?_,I.hok.fresh (Nat.le_refl _),fun y c h => I.freeC y c (hcl y c h),fun p hp => by simp at hp,I.hok.kept kp,by simp [fvs]⟩
  · cases i with
    | zero => simp at e2
    | succ j =>
      have e1' : (fv.map (·.1))[j]? = some y := by simpa using e1
      have e2' : (fvs fv σ)[j]? = some (some v) := by simpa using e2
      rw [List.getElem?_map] at e1'
      unfold fvs at e2'
      rw [List.getElem?_map] at e2'
      cases hq : fv[j]? with
      | none =>
        rw [hq] at e1'
        cases e1'
      | some q =>
        rw [hq] at e1' e2'
        have ey : q.1 = y := Option.some.inj e1'
        have ev : (σ[q.2]?).join = some v := Option.some.inj e2'
        have hm : q ∈ fv := List.mem_of_getElem? hq
        obtain ⟨s1,s2,s3,s4',s5⟩ := C.slot q hm
        have ev2 : σ[q.2]? = some (some v) := by
          cases hz : σ[q.2]? with
          | none =>
            rw [hz] at ev
            cases ev
          | some z =>
            rw [hz] at ev
            have ev' : z = some v := ev
            rw [ev']
        obtain ⟨m,hn,hl⟩ := I.loc
        obtain ⟨u,r,lk⟩ := hl q.2 q.1 v s1 ev2 s3
        obtain ⟨c,hc⟩ := Option.isSome_iff_exists.mp s4'
        refine ⟨u,r,.inr ⟨.inl (by rw [← ey]; exact s5),c,by rw [← ey]; exact hc,?_⟩⟩
        rcases lk with ⟨k,_⟩ | ⟨_,c',hc',z⟩
        · rw [s2] at k
          cases k
        · rw [hcl _ _ hc] at hc'
          cases hc'
          obtain ⟨o,ho',hd⟩ := z
          exact ⟨o,kp _ _ ho',hd⟩
  · obtain ⟨v,o,ho',hd⟩ := I.cell y c (hcl y c h)
    exact ⟨v,o,kp _ _ ho',hd⟩
theorem blk_run {pins : List (Addr × Obj)} {σ : St} {H2 : Hp} {s2 : Shared} {it : Addr} {fp : List Addr} {tn : Nat → Heap → Prop} {J : It} {RR : Value → Addr → Result → Shared → Prop} {E : Value → Shared → Prop} {Qf : V → Hp → Prop}
    (hcalm : X.calm = true) (C : CompN X scope cl x fv) (I2 : Inv X pins σ H2 s2) (T : Turn X.prog X.w X.K (.Name x px) J fp it tn) (st : tn 0 s2.heap) (f2 : ∀ b ∈ fp,FpOk X pins H2 b)
    (rd : ∀ p,H2 p = none → ∃ W : Nat → Nat → List V → Hp → Prop,(∃ m,W 0 m [] (upd H2 p (.lst []))) ∧ ∀ i m acc H2,W i m acc H2 →
      H2 p = some (.lst acc) ∧ acc.length < sizeLine ∧ ((J.stop i H2 ∧ Qf (.ref p) H2) ∨ (J.go i H2 ∧ ∀ x H3,J.yld i H2 x H3 → te (some x :: fvs fv σ) H3 fun y H4 => H4 p = some (.lst acc) ∧ ∃ m',m' < m ∧ W (i + 1) m' (acc ++ [y]) (upd H4 p (.lst (acc ++ [y]))))))
    (he : ∀ (s₀ : Shared) (H₀ : Hp),PE (X.blk (x :: fv.map (·.1)) scope cl fp s₀ H₀) elt te)
    (hRR : ∀ (p C : Addr) (H' : Hp) (s' : Shared),(∃ m,s'.heap.Ns C m) → C ≠ X.env.locals → H' C = none → X.s₀.heap.objs.size ≤ C → (∀ y c,X.env.cells.lookup y = some c → c ≠ C) → (∀ q ∈ X.pn ++ pins,q.1 ≠ C) → Inv X pins σ H' s' → Qf (.ref p) H' → RR (.ref p) C (.ok .next) s') :
    wpAny (model X.prog X.w) X.A (newList []) (fun acc s₃ => wpAny (model X.prog X.w) X.A (newFunctionEnv scope X.env.globals cl [] X.env.qual none .none (some X.env)) (fun cenv s₄ =>
      codeAny (model X.prog X.w) X.A (.compStart (.ListComp elt [⟨.Name x px,iter,[],0⟩] scope pos) 0 (.ref it) acc { cenv with scope := relabel scope X.env }) (RR acc cenv.locals) s₄) E s₃) E s2 := by
  refine wpAny_newObj_type ?_
  have hfresh := I2.fresh
  have I3 : Inv X pins σ (upd H2 s2.heap.objs.size (.lst [])) { s2 with heap := s2.heap.push { cls := .type "list",data := .seq ([] : List Value).toArray } } :=
    I2.laid (t' := s2.toks) (fun b u q => Heap.get?_push_of_some _ q) (Nat.le_refl _) ⟨Nat.zero_le _,[],0,.nil,Heap.get?_push_size _ rfl⟩
  generalize hs3 : ({ s2 with heap := s2.heap.push { cls := .type "list",data := .seq ([] : List Value).toArray } } : Shared) = s3 at I3 ⊢
  have hp3 : s2.heap.objs.size < s3.heap.objs.size := by rw [← hs3]; exact Nat.lt_of_lt_of_le (Nat.lt_succ_self _) (Nat.le_of_eq (Heap.size_push _ _).symm)
  have k23 : ∀ b o,s2.heap.get? b = some o → s3.heap.get? b = some o := fun b o e => by rw [← hs3]; exact Heap.get?_push_of_some _ e
  have fpo : ∀ b ∈ fp,b < s2.heap.objs.size := fun b hb => by
    obtain ⟨o,e,_⟩ := T.obj 0 _ st b hb
    exact Heap.lt_size e
  have f3 : ∀ b ∈ fp,FpOk X pins (upd H2 s2.heap.objs.size (.lst [])) b := fun b hb => ⟨by rw [upd_ne (Nat.ne_of_lt (fpo b hb))]; exact (f2 b hb).1,(f2 b hb).2⟩
  refine wpAny_newFunctionEnv C.cell (by intro y hy; simp at hy) (fun h1 hns1 hsb1 => ?_) C.kind
  have kp : ∀ b o,s3.heap.get? b = some o → h1.get? b = some o := fun b o e => (hsb1.2 b (Nat.ne_of_lt (Heap.lt_size e))).trans (Heap.get?_push_of_some _ e)
  have I4 := blk_inv (s4 := { s3 with heap := h1,toks := s3.toks + ([] : List (Str × Value)).length }) C I3 f3 (fun b hb => Nat.lt_trans (fpo b hb) hp3) ⟨rfl,rfl⟩ hns1 kp
  have st4 : tn 0 h1 := T.keep 0 _ _ st fun b _ o e => kp b o (k23 b o e)
  obtain ⟨W,⟨m0,w0⟩,step⟩ := rd _ hfresh
  have loop : codeAny (model X.prog X.w) X.A (.compLoop (.ListComp elt [⟨.Name x px,iter,[],0⟩] scope pos) 0 (.ref it) (.ref s2.heap.objs.size) (compEnvC scope cl s3.heap.objs.size X.env)) (RR (.ref s2.heap.objs.size) s3.heap.objs.size)
      { s3 with heap := h1,toks := s3.toks + ([] : List (Str × Value)).length } := by
    refine codeAny_compLoop_list (fun n s => ∃ i acc σv H',Inv (X.blk (x :: fv.map (·.1)) scope cl fp s3 (upd H2 s2.heap.objs.size (.lst []))) [] (σv :: fvs fv σ) H' s ∧ tn i s.heap ∧ (∀ b ∈ fp,H' b = none) ∧ W i n acc H') ?_ m0 ⟨0,[],none,_,I4,st4,fun b hb => (f3 b hb).1,w0⟩
    rintro n s ⟨i,acc,σv,H',I',st',fr',w'⟩
    obtain ⟨hp,hlen,alt⟩ := step i n acc H' w'
    have fpk : ∀ {H5 : Hp},(∀ b ∈ fp,H5 b = none) → ∀ b ∈ fp,FpOk (X.blk (x :: fv.map (·.1)) scope cl fp s3 (upd H2 s2.heap.objs.size (.lst []))) [] H5 b := fun h5 b hb =>
      ⟨h5 b hb,(I'.ok.exf b hb).1,I'.ok.exfs b hb,.inl hb,fun y c e => (I'.ok.exf b hb).2 y c e,fun q hq => by simp at hq⟩
    rcases alt with ⟨stop,qf⟩ | ⟨go,turn⟩
    · refine wpAny_mono (T.done (X.blk (x :: fv.map (·.1)) scope cl fp s3 (upd H2 s2.heap.objs.size (.lst []))) rfl rfl rfl hcalm i [] s _ H' (fun _ _ => False) I' (fpk fr') st' stop) (fun r s5 ⟨hr,I5⟩ => ?_) fun _ _ z => False.elim z
      subst hr
      refine hRR _ _ H' s5 (let ⟨m,hn,_⟩ := I5.loc; ⟨m,hn⟩) (Nat.ne_of_gt I3.lt) I5.free I3.sz (fun y c e => ?_) (fun q hq => ?_) ?_ qf
      · obtain ⟨v,z⟩ := I3.cell y c e
        exact Nat.ne_of_lt z.lt
      · exact Nat.ne_of_lt (Heap.lt_size (I3.pin q hq).1)
      · exact I3.call' (s' := s5) (ch := fp) I5.os I5.base I5.hok I5.bare fun b hb => ⟨(f2 b hb).2.2.2.1,(f2 b hb).2.1,(f2 b hb).2.2.2.2.1,(f2 b hb).2.2.2.2.2⟩
    · refine wpAny_mono (T.item (X.blk (x :: fv.map (·.1)) scope cl fp s3 (upd H2 s2.heap.objs.size (.lst []))) rfl rfl rfl hcalm i [] s _ H' (fun _ _ => False) I' (fpk fr') st' go) (fun r s5 ⟨u,hr,h5⟩ => ?_) fun _ _ z => False.elim z
      subst hr
      have e5 : assign (.Name x px) (compEnvC scope cl s3.heap.objs.size X.env) u = (letOwnedTupleGo (.Name x px) (.ref it) u >>= fun _ => assign (.Name x px) (compEnvC scope cl s3.heap.objs.size X.env) u) := by
        rw [show letOwnedTupleGo (.Name x px) (.ref it) u = pure () from rfl]
        rfl
      show wpAny _ _ (assign (.Name x px) (compEnvC scope cl s3.heap.objs.size X.env) u) _ _ _
      rw [e5]
      refine wpAny_bind (wpAny_mono h5 (fun _ s6 ⟨y,H6,I6,r6,y6,st6,fr6⟩ => ?_) fun _ _ z => False.elim z)
      have I6' := I6.pinned (fpk fr6) (T.obj _ _ st6)
      have lx : (relabel scope X.env).names.lookup x = some .local := lookup_relabel_local C.own
      refine wpAny_mono (pg_name (X := X.blk (x :: fv.map (·.1)) scope cl fp s3 (upd H2 s2.heap.objs.size (.lst []))) (i := 0) C.nd rfl (.inl lx) (.inr lx) _ s6 _ H6 y u (fun σ7 H7 => σ7 = some y :: fvs fv σ ∧ H7 = H6) I6' r6 ⟨rfl,rfl⟩) (fun _ s7 ⟨σ7,H7,I7,e7,e7'⟩ => ?_) fun _ _ z => False.elim z
      subst e7 e7'
      refine wpAny_mono (he s3 _ _ s7 _ _ _ I7 (turn y _ y6)) (fun v8 s8 ⟨y8,H8,I8,r8,q8,m',hm',w8⟩ => ?_) fun _ _ z => False.elim z
      refine wpAny_mono (mt_append (X := X.blk (x :: fv.map (·.1)) scope cl fp s3 (upd H2 s2.heap.objs.size (.lst []))) _ s8 _ H8 (.ref s2.heap.objs.size) [y8] (.ref s2.heap.objs.size) [v8] (fun _ H9 => H9 = upd H8 s2.heap.objs.size (.lst (acc ++ [y8]))) I8 rfl (.cons r8 .nil) ⟨_,acc,y8,rfl,rfl,q8,hlen,rfl⟩) (fun _ s9 ⟨_,H9,I9,_,e9⟩ => ?_) fun _ _ z => False.elim z
      subst e9
      refine ⟨m',hm',i + 1,acc ++ [y8],some y,_,I9.unpinned,T.keep _ _ _ st6 fun b hb o e => (I9.pin (b,o) (List.mem_append_right _ (List.mem_append_right _ (mem_pinsAt hb e)))).1,fun b hb => ?_,w8⟩
      obtain ⟨o,e,d⟩ := T.obj _ _ st6 b hb
      exact (I9.pin (b,o) (List.mem_append_right _ (List.mem_append_right _ (mem_pinsAt hb e)))).2.1
  exact codeAny_compStart_list loop (T.self _ 0 _ _ _ st4 loop)
theorem pe_comp {wi : TI} (hcalm : X.calm = true) (C : CompN X scope cl x fv) (hi : PI X (.Name x px) iter wi) (he : ∀ (fp : List Addr) (s₀ : Shared) (H₀ : Hp),PE (X.blk (x :: fv.map (·.1)) scope cl fp s₀ H₀) elt te)
    (hs : ∀ v,foldedSetIterable iter X.env v = pure v := by intro _; rfl) : PE X (.ListComp elt [⟨.Name x px,iter,[],0⟩] scope pos) (tComp wi fv te) := by
  intro pins s σ H Q I h
  rw [eval_ListComp]
  refine wpAny_comprehension_free (use := none) rfl hs C.clos C.kind C.names (wpAny_mono (hi pins s σ H _ I h) (fun v s1 h1 => wpAny_mono h1 (fun itv s2 h2 => ?_) fun _ _ z => z) fun _ _ z => z)
  obtain ⟨it,fp,tn,J,H2,rfl,I2,T,st2,f2,rd⟩ := h2
  refine blk_run (Qf := Q) hcalm C I2 T st2 f2 rd (he fp) fun p D H' s' ns nL nH n0 nC nP I8 q => ?_
  obtain ⟨m,hn⟩ := ns
  exact ⟨m,hn,fun h'' sb => ⟨.ref p,H',I8.turned (t' := s'.toks) (fun b o hb e => (sb.2 b hb).trans e) nH nL (.inr n0) nC nP,rfl,q⟩⟩
theorem ps_setComp {wi : TI} {y : Str} {j : Nat} {py spos : Pos} (hcalm : X.calm = true) (C : CompN X scope cl x fv) (hN : X.N.Nodup) (hj : X.N[j]? = some y) (hy : X.env.scope.names.lookup y = some .local) (hi : PI X (.Name x px) iter wi) (he : ∀ (fp : List Addr) (s₀ : Shared) (H₀ : Hp),PE (X.blk (x :: fv.map (·.1)) scope cl fp s₀ H₀) elt te)
    (hsw : swapsWith (.ListComp elt [⟨.Name x px,iter,[],0⟩] scope pos) (some (.Name y py)) spos.line X.env = pure true := by rfl)
    (hs : ∀ v,foldedSetIterable iter X.env v = pure v := by intro _; rfl) : PS X (.Assign [.Name y py] (.ListComp elt [⟨.Name x px,iter,[],0⟩] scope pos) spos) (tAsg (tComp wi fv te) (gName j)) := by
  intro pins s σ H D I h
  rw [exec_Assign_Name_used _ _ _ _ hsw]
  refine wpAny_bind (wpAny_standAt (wpAny_bind ?_))
  show wpAny _ _ (do let _ ← comprehension (.ListComp elt [⟨.Name x px,iter,[],0⟩] scope pos) scope X.env _ (newList []) false (eval iter X.env) (some (assign (.Name y py) X.env))) _ _ s
  refine wpAny_bind (wpAny_mono (wpAny_comprehension_free (use := some (assign (.Name y py) X.env)) (Q := fun _ s' => SP X pins D .next s') rfl hs C.clos C.kind C.names
    (wpAny_mono (hi pins s σ H _ I h) (fun v s1 h1 => wpAny_mono h1 (fun itv s2 h2 => ?_) fun _ _ z => z) fun _ _ z => z)) (fun _ s' hq => wpAny_pure (wpAny_pure hq)) fun _ _ z => z)
  obtain ⟨it,fp,tn,J,H2,rfl,I2,T,st2,f2,rd⟩ := h2
  refine blk_run (Qf := fun v H' => gName j v σ H' D.nx) hcalm C I2 T st2 f2 rd (he fp) fun p D' H' s' ns nL nH n0 nC nP I8 q => ?_
  obtain ⟨m,hn⟩ := ns
  show wpAny _ _ (assign (.Name y py) X.env (.ref p)) _ _ _
  refine wpAny_assign_Name (store_ok2 I8 hN hj (.inl hy) (v := .ref p) rfl (fun s9 I9 ⟨a,sb,ha⟩ => ?_) (.inr hy))
  have aD : D' ≠ a := by
    rintro rfl
    rcases ha with z | z
    · exact nL z
    · exact nC y _ z rfl
  exact ⟨m,hn.sameBut sb aD,fun h'' sb2 => ⟨_,H',I9.turned (t' := s9.toks) (fun b o hb e => (sb2.2 b hb).trans e) nH nL (.inr n0) nC nP,q⟩⟩
end
end L2
namespace L2
open PySem PySem.Spec PyProof.Rows
theorem comp_range {n : Nat} {lo : Int} {fv : List (Str × Nat)} {te : TE} {σ : St} {H1 : Hp} {Qp : Hp → Prop} {l : Addr} (Pv : Nat → List V → Hp → Prop) (h0 : Pv 0 [] (upd H1 l (.lst []))) (hp : ∀ i acc H2,i ≤ n → Pv i acc H2 → H2 l = some (.lst acc) ∧ acc.length < sizeLine)
    (hs : ∀ i acc H2 (K : VK),i < n → Pv i acc H2 → (∀ y H4,H4 l = some (.lst acc) → Pv (i + 1) (acc ++ [y]) (upd H4 l (.lst (acc ++ [y]))) → K y H4) → te (some (.int (lo + i)) :: fvs fv σ) H2 K) (hd : ∀ acc H2,Pv n acc H2 → Qp H2) :
    ∃ W : Nat → Nat → List V → Hp → Prop,(∃ m,W 0 m [] (upd H1 l (.lst []))) ∧ ∀ i m acc H2,W i m acc H2 →
      H2 l = some (.lst acc) ∧ acc.length < sizeLine ∧ (((Itr lo n).stop i H2 ∧ Qp H2) ∨ ((Itr lo n).go i H2 ∧ ∀ x H3,(Itr lo n).yld i H2 x H3 → te (some x :: fvs fv σ) H3 fun y H4 => H4 l = some (.lst acc) ∧ ∃ m',m' < m ∧ W (i + 1) m' (acc ++ [y]) (upd H4 l (.lst (acc ++ [y]))))) := by
  refine ⟨fun i m acc H2 => m = n - i ∧ i ≤ n ∧ Pv i acc H2,⟨n,by simp,Nat.zero_le _,h0⟩,?_⟩
  rintro i m acc H2 ⟨rfl,hi,p⟩
  refine ⟨(hp i acc H2 hi p).1,(hp i acc H2 hi p).2,?_⟩
  by_cases hlt : i < n
  · refine .inr ⟨hlt,fun x H3 y => ?_⟩
    obtain ⟨e1,e2⟩ := y
    subst e1 e2
    exact hs i acc _ _ hlt p fun y H4 z1 z2 => ⟨z1,n - (i + 1),by omega,rfl,hlt,z2⟩
  · have e : i = n := by omega
    subst e
    exact .inl ⟨Nat.le_refl _,hd acc H2 p⟩
def setScope (s : Stmt) : Scope := match s with
  | .Assign _ (.ListComp _ _ sc _) _ => sc
  | _ => { kind := .function,names := [],isGenerator := false,isCoroutine := false }
end L2
namespace L2
open PySem PySem.Spec PyProof.Rows
theorem ix_tupK {X : Cx} {K : PySem.W.Frag} (h : X.K = K) : IxR X (rIxT K) := h ▸ ix_tup
end L2
namespace L2
open PySem PySem.Spec PyProof.Rows
theorem comp_list {K : PySem.W.Frag} {a : Addr} {xs : List V} {fv : List (Str × Nat)} {te : TE} {σ : St} {H1 : Hp} {Qp : Hp → Prop} {l : Addr} (Pv : Nat → List V → Hp → Prop) (h0 : Pv 0 [] (upd H1 l (.lst []))) (hp : ∀ i acc H2,i ≤ xs.length → Pv i acc H2 → SqL K H2 a xs ∧ H2 l = some (.lst acc) ∧ acc.length < sizeLine)
    (hs : ∀ i x acc H2 (Kc : VK),xs[i]? = some x → Pv i acc H2 → (∀ y H4,H4 l = some (.lst acc) → Pv (i + 1) (acc ++ [y]) (upd H4 l (.lst (acc ++ [y]))) → Kc y H4) → te (some x :: fvs fv σ) H2 Kc) (hd : ∀ acc H2,Pv xs.length acc H2 → Qp H2) :
    ∃ W : Nat → Nat → List V → Hp → Prop,(∃ m,W 0 m [] (upd H1 l (.lst []))) ∧ ∀ i m acc H2,W i m acc H2 →
      H2 l = some (.lst acc) ∧ acc.length < sizeLine ∧ (((Itl K a).stop i H2 ∧ Qp H2) ∨ ((Itl K a).go i H2 ∧ ∀ x H3,(Itl K a).yld i H2 x H3 → te (some x :: fvs fv σ) H3 fun y H4 => H4 l = some (.lst acc) ∧ ∃ m',m' < m ∧ W (i + 1) m' (acc ++ [y]) (upd H4 l (.lst (acc ++ [y]))))) := by
  refine ⟨fun i m acc H2 => m = xs.length - i ∧ i ≤ xs.length ∧ Pv i acc H2,⟨xs.length,by simp,Nat.zero_le _,h0⟩,?_⟩
  rintro i m acc H2 ⟨rfl,hi,p⟩
  obtain ⟨q1,q2,q3⟩ := hp i acc H2 hi p
  refine ⟨q2,q3,?_⟩
  by_cases hlt : i < xs.length
  · refine .inr ⟨⟨xs,xs[i],q1,List.getElem?_eq_getElem hlt⟩,fun x H3 y => ?_⟩
    obtain ⟨e1,e2⟩ := y
    subst e1
    exact hs i x acc _ _ (e2 xs q1) p fun y H4 z1 z2 => ⟨z1,xs.length - (i + 1),by omega,rfl,hlt,z2⟩
  · have e : i = xs.length := by omega
    subst e
    exact .inl ⟨⟨xs,q1,Nat.le_refl _⟩,hd acc H2 p⟩
end L2
namespace L2
open PySem PySem.Spec PyProof.Rows
theorem val_get {xs : List V} {us : List Value} {j : Nat} (r : Vals xs us) (h : j < us.length) : ∃ a,xs[j]? = some a ∧ RelV a us[j] := by
  have hl := r.length
  have hj : j < xs.length := by omega
  obtain ⟨u,e,q⟩ := r.get (i := j) (x := xs[j]) (List.getElem?_eq_getElem hj)
  rw [List.getElem?_eq_getElem h] at e
  cases e
  exact ⟨xs[j],List.getElem?_eq_getElem hj,q⟩
section
variable {X : Cx} {pins : List (Addr × Obj)} {σ : St} {H : Hp} {s : Shared}
end
end L2
namespace L2
open PySem
theorem Room.units10 {k : Nat} {A : Around} (r : Room k A) : A.units + 10 < cLine := by have := r.un; omega
end L2
namespace L2
open PySem PySem.Spec PyProof.Rows
end L2
namespace Sp3
open PySem PySem.Spec L2 Mth Sp1 Sp2
end Sp3
namespace Sp3
open PySem PySem.Spec L2 Mth Sp1 Sp2
end Sp3
namespace PySem
open Sem (wp)
abbrev Lk {α : Type} (M : Model) (h : Heap) (t : Sem α) (r : α) : Prop := ∀ (A : Around) (Q : α → Shared → Prop) (E : Value → Shared → Prop) (g : Array GenState) (d : Drawn) (tk : Nat) (os : OsState),Q r ⟨h,g,d,tk,os⟩ → wpAny M A t Q E ⟨h,g,d,tk,os⟩
section
variable {prog : Program} {w : World} {A : Around} {E : Value → Shared → Prop} {h : Heap} {g : Array GenState} {d : Drawn} {t : Nat} {os : OsState} {a : Addr} {o : Obj}
  {nm q : Str} {C N : Addr} {bs bm : List Value} {hdct : Bool} {sn : List Str} {sub : List Value} {ab : Bool} {col : Option Bool} {dd : Option Addr} {k0 k1 k2 k3 k5 : Option Value} {newId : String}
theorem class_get_exc {R : Result → Shared → Prop} (atC : h.get? C = some (excClassObj nm q C N bs bm hdct sn sub ab col dd k0 k1 k2 k3 k5 newId)) (hO : bm.contains (.type "object") = true)
    (atE : h.get? a = some o) (clE : o.cls = .ref C) (fin : R (.ok (.ret (.ref C))) ⟨h,g,d,t,os⟩) :
    codeAny (model prog w) A (.call (.builtin "getset_descriptor.__get__") ⟨[.builtin "object.__class__",.ref a,.ref C],[]⟩) R ⟨h,g,d,t,os⟩ := by
  have tg : (⟨h,g,d,t,os⟩ : Shared).TypeIs (.builtin "object.__class__") "getset_descriptor" := F.typeOf_object_class
  have e0 : (".".intercalate ("object.__class__".cutAt '.').dropLast) = "object" := by
    have e0 : "object.__class__".cutAt '.' = ["object","__class__"] := by first | rfl | decide +kernel
    rw [e0]; decide +kernel
  have cont : (Value.ref C :: bm).contains (.type (".".intercalate ("object.__class__".cutAt '.').dropLast)) = true := by
    rw [e0,List.contains_cons,hO,Bool.or_true]
  refine codeAny_call_builtin F.slot_gs_get.plain F.entry_gs_get (F.slot_gs_get.check _ _ _ _ _ _ _ _ tg (F.args_gs_get _ _ _) ?_)
  repeat (any_goals (first | assumption | (with_reducible refine wpAny_loadPart_at atE ?_; rw [clE]) | (with_reducible refine wpAny_isSubtype_exc atC ?_; rw [cont]) | wp_step))
  refine ⟨Code.quiet_builtin _ (by decide +kernel),codeAny_builtin F.entry_object_class ?_⟩
  repeat (any_goals (first | assumption | (with_reducible refine wpAny_loadPart_at atE ?_; rw [clE]) | wp_step))
theorem check_ga_exc {M : Model} {nameV : Value} {Q : Unit → Shared → Prop} (atC : h.get? C = some (excClassObj nm q C N bs bm hdct sn sub ab col dd k0 k1 k2 k3 k5 newId)) (hB : bm.contains (.type "BaseException") = true)
    (atE : h.get? a = some o) (clE : o.cls = .ref C) (fin : Q () ⟨h,g,d,t,os⟩) : wpAny M A (checkBuiltinCall "BaseException.__getattribute__" ⟨[.ref a,nameV],[]⟩) Q E ⟨h,g,d,t,os⟩ := by
  have kd : builtinKind "BaseException.__getattribute__" = some .slot := by decide +kernel
  have spl : splitId "BaseException.__getattribute__" = some ("BaseException","__getattribute__") := by decide +kernel
  have cont : (Value.ref C :: bm).contains (.type "BaseException") = true := by rw [List.contains_cons,hB,Bool.or_true]
  have okA := F.args_bexc_ga (.ref a) nameV
  simp only [checkBuiltinCall,kd,spl]
  refine wpAny_bind ?_
  · unfold isInstance
    repeat (first | (with_reducible refine wpAny_loadPart_at atE ?_; rw [clE]) | (with_reducible refine wpAny_isSubtype_exc atC ?_; rw [cont]) | wp_step)
    exact fin
theorem class_entry_exc {tk : Tok} {Q : Fin → Shared → Prop} (atC : h.get? C = some (excClassObj nm q C N bs bm hdct sn sub ab col dd k0 k1 k2 k3 k5 newId)) (hO : bm.contains (.type "object") = true)
    (lc : Lk (model prog w) h (typeLookup (.ref C) "__class__") (some (.builtin "object.__class__"))) (atE : h.get? a = some o) (clE : o.cls = .ref C) (fin : Q (.done (.ret (.ref C))) ⟨h,g,d,t,os⟩) :
    wpAny (model prog w) A (Builtin.«object.__getattribute__» ⟨[.ref a,.str "__class__" tk],[]⟩) Q E ⟨h,g,d,t,os⟩ := by
  have tg : (⟨h,g,d,t,os⟩ : Shared).TypeIs (.builtin "object.__class__") "getset_descriptor" := F.typeOf_object_class
  have tyC := F.typeOf_object_class
  have getL := F.slot_gs_get.lookup
  have setL := F.slot_gs_set.lookup
  repeat (any_goals (first | assumption | (with_reducible refine wpAny_loadPart_at atE ?_; rw [clE]) | with_reducible refine lc _ _ _ _ _ _ _ ?_ | wp_step))
  refine class_get_exc atC hO atE clE ?_
  repeat (any_goals (first | assumption | wp_step))
theorem class_by_exc {tk : Tok} {Q : Value → Shared → Prop} (atC : h.get? C = some (excClassObj nm q C N bs bm hdct sn sub ab col dd k0 k1 k2 k3 k5 newId)) (hO : bm.contains (.type "object") = true) (hB : bm.contains (.type "BaseException") = true)
    (lc : Lk (model prog w) h (typeLookup (.ref C) "__class__") (some (.builtin "object.__class__"))) (lg : Lk (model prog w) h (typeLookup (.ref C) "__getattribute__") (some (.builtin "BaseException.__getattribute__"))) (ln : Lk (model prog w) h (typeLookup (.ref C) "__getattr__") none)
    (atE : h.get? a = some o) (clE : o.cls = .ref C) (fin : Q (.ref C) ⟨h,g,d,t,os⟩) :
    wpAny (model prog w) A (getAttrBy (.ref a) (.str "__class__" tk) false) Q E ⟨h,g,d,t,os⟩ := by
  have bnd := F.excAttr_ValueError.ga.bind (.ref a)
  have nh2 : (Value.builtin "BaseException.__getattribute__" == Value.builtin "object.__getattribute__") = false := by decide +kernel
  have nh1 : (onTheHeap (Value.ref C) && Value.builtin "BaseException.__getattribute__" == Value.builtin "object.__getattribute__") = false := by rw [nh2]; rfl
  repeat (any_goals (first | assumption | (with_reducible refine wpAny_loadPart_at atE ?_; rw [clE]) | with_reducible refine lg _ _ _ _ _ _ _ ?_ | with_reducible refine ln _ _ _ _ _ _ _ ?_ | wp_step))
  refine codeAny_call_builtin F.excAttr_ValueError.ga.plain F.entry_bexc_ga (check_ga_exc atC hB atE clE (class_entry_exc atC hO lc atE clE ?_))
  repeat (any_goals (first | assumption | wp_step))
theorem class_attr_exc {Q : Option Value → Shared → Prop} (atC : h.get? C = some (excClassObj nm q C N bs bm hdct sn sub ab col dd k0 k1 k2 k3 k5 newId)) (hO : bm.contains (.type "object") = true) (hB : bm.contains (.type "BaseException") = true)
    (lc : Lk (model prog w) h (typeLookup (.ref C) "__class__") (some (.builtin "object.__class__"))) (lg : Lk (model prog w) h (typeLookup (.ref C) "__getattribute__") (some (.builtin "BaseException.__getattribute__"))) (ln : Lk (model prog w) h (typeLookup (.ref C) "__getattr__") none)
    (atE : h.get? a = some o) (clE : o.cls = .ref C) (fin : Q (some (.ref C)) ⟨h,g,d,t + 1,os⟩) :
    wpAny (model prog w) A (getAttr? (.ref a) "__class__") Q E ⟨h,g,d,t,os⟩ := by
  unfold getAttr?
  repeat (any_goals (first | assumption | with_reducible refine class_by_exc atC hO hB lc lg ln atE clE ?_ | wp_step))
end
end PySem
namespace L2
open PySem PySem.Spec PyProof.Rows
def excO (C a : Addr) : HO := .ext fun h => ∃ o,h.get? a = some o ∧ o.cls = .ref C
theorem excO_ok {P : Program} {w : World} {H : Hp} {h : Heap} {a C : Addr} (e : ∃ o,h.get? a = some o ∧ o.cls = .ref C) : ObjOk P w H h a (excO C a) :=
  ⟨e,let ⟨o,e1,_⟩ := e; ⟨o,e1⟩,fun _ _ ⟨o,e1,e2⟩ k => ⟨o,k o e1,e2⟩⟩
structure ExcF (K : PySem.W.Frag) (C : Addr) : Prop where
  ga : PySem.W.findIn K (.ref C) "__getattribute__" = some (some (.builtin "BaseException.__getattribute__"))
  gn : PySem.W.findIn K (.ref C) "__getattr__" = some none
  cl : PySem.W.findIn K (.ref C) "__class__" = some (some (.builtin "object.__class__"))
theorem lk_of {K : PySem.W.Frag} {M : Model} {h : Heap} {C : Addr} {n : Str} {r : Option Value} (X : K.In h) (e : PySem.W.findIn K (.ref C) n = some r) : Lk M h (typeLookup (.ref C) n) r :=
  fun _ _ _ _ _ _ _ q => (PySem.W.looks_findIn X e).here q
theorem kitx_exc {K : PySem.W.Frag} {mg : Str → Option Value} {n : Str} {C a : Addr} (O : ExcC K mg n C) (f : ExcF K C) : PySem.W.KitX K (.ref a) (.ref C) (fun h => ∃ o,h.get? a = some o ∧ o.cls = .ref C) where
  ty := fun M h _ p => by
    obtain ⟨o,e1,e2⟩ := p
    exact e2 ▸ (PySem.W.Looks.ld e1).andThen .now
  it := fun M h X _ => by
    obtain ⟨bm,N',nm,qn,bs,hd,sn,sub,ab,col,dd,k0,k1,k2,k3,k5,mN,atC,_⟩ := O.obj h X
    intro A' Q' E' s' k q
    unfold isType loadHead
    exact wpAny_bind (wpAny_loadPart (k _ _ atC) (wpAny_pure q))
  ne := fun h tp dd' its n' sl X htp => by
    obtain ⟨bm,N',nm,qn,bs,hd,sn,sub,ab,col,dd,k0,k1,k2,k3,k5,mN,atC,_⟩ := O.obj h X
    refine Bool.eq_false_iff.mpr fun q => ?_
    cases Value.ref.inj (beq_iff_eq.mp q)
    rw [atC] at htp
    have z := congrArg Obj.cls (Option.some.inj htp)
    exact absurd (Value.type.inj z) (by decide)
  ca := fun {prog w A E Q s} X p k => by
    obtain ⟨h,g,d,t,os⟩ := s
    obtain ⟨o,e1,e2⟩ := p
    obtain ⟨bm,N',nm,qn,bs,hd,sn,sub,ab,col,dd,k0,k1,k2,k3,k5,mN,atC,_,_,T⟩ := O.obj h X
    exact class_attr_exc atC (T.hasType (by decide +kernel)) (T.hasType (by decide +kernel)) (lk_of X f.cl) (lk_of X f.ga) (lk_of X f.gn) e1 e2 k
section
variable {X : Cx}
def rIsE (K : PySem.W.Frag) (C : Addr) : List V → Hp → VK → Prop := fun xs H Q => ∃ (a : Addr) (v : V) (b : Bool),xs = [.ref a,v] ∧ H a = some (excO C a) ∧
  ((∃ D,v = .ref D ∧ PySem.W.kitOne K (.ref C) (.ref D) = some b) ∨ (∃ T,v = .ty T ∧ PySem.W.kitOne K (.ref C) (.type T) = some b) ∨ (∃ (p : Addr) (ds : List Addr),v = .ref p ∧ H p = some (.tup (ds.map V.ref)) ∧ PySem.W.kitAny K (.ref C) (ds.map Value.ref) = some b)) ∧ Q (.bl b) H
theorem vals_refs : ∀ {ds : List Addr} {us : List Value},Vals (ds.map V.ref) us → us = ds.map Value.ref
  | [],us,r => by cases r; rfl
  | d :: ds,us,r => by
    cases r with
    | cons h t =>
      rw [vals_refs t]
      cases h
      rfl
theorem call_isexc {n : Str} {C : Addr} (O : ExcC X.K X.mg n C) (f : ExcF X.K C) : CallR X (.builtin "isinstance") (rIsE X.K C) := by
  intro pins s σ H xs us Q I rs h
  obtain ⟨a,v,b,rfl,ea,hv,q⟩ := h
  obtain ⟨u,u',rfl,ru,rv⟩ := vals2 rs
  cases ru
  have p : ∃ o,s.heap.get? a = some o ∧ o.cls = .ref C := (show ObjOk X.prog X.w H s.heap a (excO C a) from I.hok a _ ea).1
  rcases hv with ⟨D,rfl,e⟩ | ⟨T,rfl,e⟩ | ⟨p',ds,rfl,et,e⟩
  · cases rv
    exact PySem.W.kia_one (kitx_exc O f) I.kIn p e (by intro z; cases z) fun tk => ⟨.bl _,H,I.tok _,rfl,q⟩
  · cases (show u' = Value.type T from rv)
    exact PySem.W.kia_one (kitx_exc O f) I.kIn p e (by intro z; cases z) fun tk => ⟨.bl _,H,I.tok _,rfl,q⟩
  · cases rv
    obtain ⟨_,its,rv',⟨oc,odi,oda,osl⟩,eo,ec,nn,ed⟩ := I.hok _ _ et
    dsimp only at ec ed
    subst ec ed
    cases vals_refs rv'
    exact PySem.W.kia_tup (kitx_exc O f) I.kIn p eo e (by intro z; cases z) fun tk => ⟨.bl _,H,I.tok _,rfl,q⟩
end
section
variable {X : Cx} {pins : List (Addr × Obj)} {σ : St} {H : Hp} {s : Shared}
theorem Inv.track {a : Addr} {o : HO} (I : Inv X pins σ H s) (hn : H a = none) (h0 : X.s₀.heap.get? a = none) (hl : a ≠ X.env.locals) (hc : ∀ x c,X.env.cells.lookup x = some c → c ≠ a) (hp : ∀ p ∈ X.pn ++ pins,p.1 ≠ a)
    (ho : ObjOk X.prog X.w (upd H a o) s.heap a o) : Inv X pins σ (upd H a o) s where
  ok := I.ok
  os := I.os
  bare := I.bare
  base := {
    keep := I.base.keep
    slot := I.base.slot
    free := fun b ob e n hx => by
      rw [upd_ne (fun z => by subst z; rw [h0] at e; cases e)]
      exact I.base.free b ob e n hx
    there := I.base.there
    tups := fun b xs q => by
      have z := I.base.tups b xs q
      rw [upd_ne (ne_of_none z hn)]
      exact z
    frzs := fun b ob u q => by
      have z := I.base.frzs b ob u q
      rw [upd_ne (ne_of_none z hn)]
      exact z
    tbls := fun b ps q => by
      obtain ⟨m,z⟩ := I.base.tbls b ps q
      exact ⟨m,by rw [upd_ne (ne_of_none z hn)]; exact z⟩ }
  loc := I.loc
  cell := I.cell
  free := by rw [upd_ne (Ne.symm hl)]; exact I.free
  freeC := fun x c e => by rw [upd_ne (hc x c e)]; exact I.freeC x c e
  pin := fun p m => by
    obtain ⟨p1,p2,p3⟩ := I.pin p m
    exact ⟨p1,by rw [upd_ne (hp p m)]; exact p2,p3⟩
  hok := fun b u q => by
    by_cases hb : b = a
    · subst hb
      rw [upd_same] at q
      cases q
      exact ho
    · rw [upd_ne hb] at q
      exact (I.hok b u q).stay (fun _ _ _ r => r) (fun c r => by rw [upd_ne (ne_of_none r hn)]; exact r) fun c xs r => by rw [upd_ne (ne_of_none r hn)]; exact r
  len := I.len
theorem goes_ok {M : Model} {A : Around} {E : Value → Shared → Prop} {i : Nat} {x : Str} {pos : Pos} {Q : Unit → Shared → Prop} (I : Inv X pins σ H s) (hN : X.N.Nodup) (hi : X.N[i]? = some x) (hk : X.env.kindOf x = some .local)
    (h : ∀ s',Inv X pins (σ.set i none) H s' → Q () s') : wpAny M A (do bindName X.env x .none; unbindBehindTheSuite X.env x pos) Q E s := by
  obtain ⟨m,hn,hl⟩ := id I.loc
  have plain : (X.env.scope.kind == .class || (X.env.scope.kind == .module && X.env.locals != X.env.globals)) = false := by rw [I.ok.kind]; rfl
  have iσ : i < σ.length := by rw [I.len]; exact (List.getElem?_eq_some_iff.mp hi).1
  have cne := I.cne
  refine wpAny_nameGoes_keeps hk hn plain (fun h' v hn' sb => ?_)
  have far : ∀ {b : Addr} {o : Obj},X.s₀.heap.get? b = some o → b ≠ X.env.locals := fun e => Nat.ne_of_lt (Nat.lt_of_lt_of_le (Heap.lt_size e) I.ok.above)
  refine h _ ⟨I.ok,I.os,I.bare,⟨fun b o e n hb hx => (sb.2 b (far e)).trans (I.base.keep b o e n hb hx),fun b o e n hb hx => ?_,I.base.free,fun b o e hx => ?_,I.base.tups,I.base.frzs,I.base.tbls⟩,⟨_,hn',fun j y v' e1 e2 e3 => ?_⟩,fun y c e => ?_,I.free,I.freeC,fun p hp => ?_,fun b ob e => ?_,by simpa using I.len⟩
  · obtain ⟨sl,z⟩ := I.base.slot b o e n hb hx
    exact ⟨sl,(sb.2 b (far e)).trans z⟩
  · obtain ⟨o',z⟩ := I.base.there b o e hx
    exact ⟨o',(sb.2 b (far e)).trans z⟩
  · by_cases hj : j = i
    · subst hj
      rw [List.getElem?_set_self iσ] at e2
      cases e2
    · rw [List.getElem?_set_ne (Ne.symm hj)] at e2
      obtain ⟨u',r',q⟩ := hl j y v' e1 e2 e3
      refine ⟨u',r',?_⟩
      rcases q with ⟨k,e⟩ | ⟨k,c,e,z⟩
      · have ny : y ≠ x := fun e => hj (nodup_ix hN e1 (e ▸ hi))
        exact .inl ⟨k,by simp [ny,e]⟩
      · exact .inr ⟨k,c,e,z.sameBut sb (cne y c e)⟩
  · obtain ⟨w',z⟩ := I.cell y c e
    exact ⟨w',z.sameBut sb (cne y c e)⟩
  · obtain ⟨e,n,ne,nf,d⟩ := I.pin p hp
    exact ⟨(sb.2 p.1 ne).trans e,n,ne,nf,d⟩
  · refine (I.hok b ob e).stay (fun c w' hc q => (sb.2 c ?_).trans q) (fun _ q => q) fun _ _ q => q
    rintro rfl
    rcases hc with rfl | hc
    · rw [I.free] at e
      cases e
    · rw [I.free] at hc
      cases hc
end
def Ends.drop (D : Ends) (i : Nat) : Ends := { nx := fun σ H => D.nx (σ.set i none) H,rt := D.rt,bk := fun σ H => D.bk (σ.set i none) H,ct := fun σ H => D.ct (σ.set i none) H }
section
variable {X : Cx}
theorem caught_as {pins : List (Addr × Obj)} {σ : St} {H : Hp} {s s' : Shared} {E1 : XK} {ev : Value} {x en : Str} {B C : Addr} {np pos : Pos} {b₀ : Stmt} {suite : List Stmt} {rest : List ExceptHandler} {D : Ends} {th : TS} {Ex : Value → Shared → Prop} {i : Nat}
    (I : Inv X pins σ H s) (stk : X.stack = X.env :: X.outer) (hf : X.env.frame = some X.env.locals) (O : ExcC X.K X.mg x B) (hg : Gl X x) (hm : PySem.W.exmOne X.K (.ref C) (.ref B) = some true) (hex : X.ex = []) (hN : X.N.Nodup) (hi : X.N[i]? = some en) (hk : X.env.kindOf en = some .local) (h : CXE X.prog X.w X.stack H s E1 ev s')
    (hE : ∀ c o H',E1 c o H' → c = .ref C ∧ ∀ e : Addr,H' e = none → th (D.drop i) (σ.set i (some (.ref e))) (upd H' e (excO C e))) (hb : ∀ e : Addr,PSs (X.inH e) (b₀ :: suite) th) (hdb : (x == ("__debug__" : Str)) = false := by decide) :
    wpAny (model X.prog X.w) X.A (noteFrame ev X.env) (fun _ s₂ => wpAny (model X.prog X.w) X.A (setFlight ev none) (fun _ s₃ =>
      wpAny (model X.prog X.w) X.A (handleBy ev X.env (.ExceptHandler (some (.Name x np)) (some en) (b₀ :: suite) pos :: rest)) (SP X pins D) Ex s₃) Ex s₂) Ex s' := by
  obtain ⟨ea,t,cls,H',B',rfl,os,bare,un,hok,fl,big,q⟩ := h
  obtain ⟨rfl,rd⟩ := hE _ _ _ q
  have hfr := I.ok.frames
  rw [stk] at hfr
  have fr : ∀ b ∈ frs X.stack,H b = none ∧ ∀ o,s'.heap.get? b = some o → ∀ vs,o.data ≠ .fields vs := fun b hb => ⟨I.stkFree b hb,fun o eo => by
    obtain ⟨_,o',eo',nf⟩ := fl.2.2.1.mem hb
    rw [eo] at eo'
    cases eo'
    exact nf⟩
  have J : ∀ h2 : Heap,B'.StaysIn h2 → s'.heap.UpToSlots h2 → Inv X pins σ H' { s' with heap := h2 } := fun h2 st2 sl =>
    I.call' (s' := { s' with heap := h2 }) (ch := []) os (Un.fly un big fl.1 st2 sl fr) (HOk.fly hok big fl.1 st2) bare fun b z => absurd z (by simp)
  have hn : H' ea = none := by
    cases hz : H' ea with
    | none => rfl
    | some o =>
      obtain ⟨ob,e⟩ := big.tr ea o hz
      rw [fl.2.1] at e
      cases e
  have new : ∀ b o,s.heap.get? b = some o → b ≠ ea := fun b o e z => by
    subst z
    by_cases hb : b ∈ frs X.stack
    · obtain ⟨_,o',eo',nf⟩ := fl.2.2.1.mem hb
      obtain ⟨oe',vs,e1,_,e2,_⟩ := fl.first
      rw [eo'] at e1
      cases e1
      exact nf vs e2
    · obtain ⟨ob,e1⟩ := big.old b o e hb
      rw [fl.2.1] at e1
      cases e1
  have fl0 := fl
  rw [stk] at fl0
  refine wpAny_looks_onW (L := X.env.locals) hfr hf fl0 fun h4 hheld up4 => ?_
  refine wpAny_landsW hheld fun h5 fl5 up5 => ?_
  have up45 := up4.trans up5
  have I5 := (J h5 fl5.1 up45).inH ea
  obtain ⟨oe,he,hc⟩ := fl5.there
  refine wpAny_handleBy_cons (codeAny_handlers_test (ld_glob I5 hg O.bound ?_ hdb)) (by intro z; cases z)
  have LT : PySem.W.Looks (model X.prog X.w) h5 (typeOf (.ref ea)) (.ref C) := hc ▸ (PySem.W.Looks.ld he).andThen .now
  refine (PySem.W.exm_one I5.kIn LT hm).here (codeAny_handlers_suite_as ?_)
  refine lands_againW fl5 fun h6 fl6 up6 => ?_
  have I6 := (J h6 fl6.1 (up45.trans up6)).inH ea
  have I7 := I6.track (a := ea) (o := excO C ea) hn (by
    cases hz : X.s₀.heap.get? ea with
    | none => rfl
    | some o =>
      obtain ⟨o',e⟩ := I.base.there ea o hz (by rw [hex]; exact List.not_mem_nil)
      exact absurd rfl (new ea o' e)) (fun z => by
    obtain ⟨m,⟨o',_,_,e,_⟩,_⟩ := I.loc
    exact new _ o' e z.symm) (fun y c e z => by
    obtain ⟨v,o',e',_⟩ := I.cell y c e
    exact new _ o' e' z) (fun p hp z => new _ _ (I.pin p hp).1 z) (excO_ok fl6.there)
  refine store_ok (X := X.inH ea) I7 hN hi (.inl hk) (show RelV (.ref ea) (.ref ea) from rfl) (fun s8 I8 => ?_) (.inr hk)
  refine wpAny_mono (hb ea pins _ _ _ (D.drop i) I8 (rd ea hn)) (fun f s9 z => ?_) fun _ _ z => False.elim z
  cases f with
  | next =>
    obtain ⟨σ',H2,I9,q9⟩ := z
    exact goes_ok (I9.outH I.ok) hN hi hk fun s10 I10 => ⟨_,_,I10,q9⟩
  | brk =>
    obtain ⟨σ',H2,I9,q9⟩ := z
    exact goes_ok (I9.outH I.ok) hN hi hk fun s10 I10 => ⟨_,_,I10,q9⟩
  | cont =>
    obtain ⟨σ',H2,I9,q9⟩ := z
    exact goes_ok (I9.outH I.ok) hN hi hk fun s10 I10 => ⟨_,_,I10,q9⟩
  | ret u =>
    obtain ⟨v,σ',H2,I9,r,q9⟩ := z
    exact goes_ok (I9.outH I.ok) hN hi hk fun s10 I10 => ⟨v,_,_,I10,r,q9⟩
theorem ps_try_as {n en : Str} {B C : Addr} {np hpos pos : Pos} {body : List Stmt} {b₀ : Stmt} {suite : List Stmt} {tx : TX} {th : TS} {i : Nat} (stk : X.stack = X.env :: X.outer) (hfr : X.env.frame = some X.env.locals) (hb : PXs X body tx) (O : ExcC X.K X.mg n B) (hg : Gl X n)
    (hm : PySem.W.exmOne X.K (.ref C) (.ref B) = some true) (hex : X.ex = []) (hN : X.N.Nodup) (hi : X.N[i]? = some en) (hk : X.env.kindOf en = some .local)
    (hh : ∀ e : Addr,PSs (X.inH e) (b₀ :: suite) th) (hdb : (n == ("__debug__" : Str)) = false := by decide) :
    PS X (.Try body [.ExceptHandler (some (.Name n np)) (some en) (b₀ :: suite) hpos] [] [] pos) (fun D σ H => tx (fun c σ' H' => c = .ref C ∧ ∀ e : Addr,H' e = none → th (D.drop i) (σ'.set i (some (.ref e))) (upd H' e (excO C e))) D σ H) := by
  intro pins s σ H D I h
  refine wpAny_Try_except (wpAny_mono (hb pins s σ H D _ I h) (fun f s1 q => ?_) fun ev s1 q => ?_)
  · cases f with
    | next => exact wpAny_execs_nil q
    | ret v => exact q
    | brk => exact q
    | cont => exact q
  · obtain ⟨s₁,σ₁,H₁,E1,I1,hx,hE⟩ := q
    exact caught_as I1 stk hfr O hg hm hex hN hi hk hx (fun c o H' z => hE c o H' z) hh hdb
end
end L2
namespace Sp8
open PySem PySem.Spec L2 Mth Sp1 Sp2 Sp3
end Sp8
namespace L2
open PySem PySem.Spec PyProof.Rows
theorem bt_ValueError : bootBuiltins "ValueError" = some (.type "ValueError") := by decide +kernel
theorem SqT.mod {K : PySem.W.Frag} {H : Hp} {a : Addr} {oc : Value} {od : Option Addr} {its : Array Value} {n : Nat} {sl : Array (Option Value)} {xs : List V} (hk : K.lookup a = some ⟨oc,od,.seq its n,sl⟩) (hc : oc = .type "tuple") (hz : its.size ≤ 100) (r : Vals xs its.toList) : SqT K H a xs :=
  .inr ⟨_,its,n,hk,hc,rfl,Nat.le_of_lt (small1000 (by omega)),r⟩
end L2
namespace Sp24
open PySem PySem.Spec L2 Mth Sp1 Sp2 Sp3 Sp8
end Sp24
namespace L2
open PySem PySem.Spec PyProof.Rows
theorem bt_all : bootBuiltins "all" = some (.builtin "all") := by decide +kernel
theorem bl_at {bs : List Bool} {us : List Value} {i : Nat} {v : Value} (r : Vals (bs.map V.bl) us) (h : us[i]? = some v) : ∃ b,bs[i]? = some b ∧ v = .bool b := by
  have hl := r.length
  rw [List.length_map] at hl
  have hi : i < us.length := (List.getElem?_eq_some_iff.mp h).1
  have hj : i < bs.length := by omega
  obtain ⟨u,e,q⟩ := r.get (i := i) (x := .bl bs[i]) (by rw [List.getElem?_map,List.getElem?_eq_getElem hj]; rfl)
  rw [h] at e
  cases e
  exact ⟨bs[i],List.getElem?_eq_getElem hj,q⟩
theorem all_range (bs : List Bool) : ((List.range bs.length).all fun i => (bs[i]?).getD true) = bs.all id := by
  rw [Bool.eq_iff_iff]
  simp only [List.all_eq_true,List.mem_range,id]
  constructor
  · intro h b hb
    obtain ⟨i,hi,rfl⟩ := List.mem_iff_getElem.mp hb
    have z := h i hi
    rw [List.getElem?_eq_getElem hi] at z
    exact z
  · intro h i hi
    rw [List.getElem?_eq_getElem hi]
    exact h _ (List.getElem_mem hi)
theorem call_all {X : Cx} (hc : X.calm = true) : CallR X (.builtin "all") (fun xs H Q => ∃ (p : Addr) (bs : List Bool),xs = [.ref p] ∧ SqL X.K H p (bs.map V.bl) ∧ Q (.bl (bs.all id)) H) := by
  intro pins s σ H xs us Q I r h
  obtain ⟨p,bs,rfl,hq,q⟩ := h
  obtain ⟨u,rfl,rx⟩ := vals1 r
  cases rx
  obtain ⟨its,rv,pl,_⟩ := I.list hq
  have hl := pl.isList
  have lt : p < s.heap.objs.size := by
    obtain ⟨_,e,_⟩ := hl
    exact Heap.lt_size e
  refine call_all_walk (wpAny_pyIter_list hl ?_)
  refine ⟨s.heap.objs.size,[s.heap.objs.size,p],[s.heap.objs.size],its.toArray.size,_,_,fun i => (bs[i]?).getD true,rfl,Walks.list (A := X.A.in1) (I.ok.hd hc) _ p (Nat.ne_of_lt lt) its.toArray,?_⟩
  refine ⟨⟨⟨_,Heap.get?_push_size _ rfl,rfl,rfl⟩,hl.push _⟩,fun i v s' Q' E' hP hQ => ?_,fun h' tk hk => ?_⟩
  · obtain ⟨b,e,rfl⟩ := bl_at rv (by simpa using hP)
    simp only [e,Option.getD_some] at hQ
    exact wpAny_truthy_bool hQ
  · have el : its.toArray.size = bs.length := by
      have := rv.length
      rw [List.length_map] at this
      rw [List.size_toArray]
      omega
    rw [el,all_range]
    refine ⟨.bl _,H,I.kept (t' := tk) fun b o e => ?_,rfl,q⟩
    exact hk b o (fun hm => by rw [List.mem_singleton.mp hm] at e; exact Nat.lt_irrefl _ (Heap.lt_size e)) (Heap.get?_push_of_some _ e)
end L2
namespace Sp7
open PySem PySem.Spec L2 Mth Sp1 Sp2 Sp3
end Sp7
namespace L2
open PySem PySem.Spec PyProof.Rows
end L2
namespace L2
open PySem PySem.Spec PyProof.Rows
def SameT (H H' : Hp) : Prop := ∀ b xs,H b = some (.tup xs) → H' b = some (.tup xs)
theorem Same.t {H H' : Hp} (s : Same H H') : SameT H H' := fun b xs e => s b _ e
theorem SameT.trans {H H1 H2 : Hp} (a : SameT H H1) (b : SameT H1 H2) : SameT H H2 := fun c xs e => b c xs (a c xs e)
theorem SameT.upd {H : Hp} {l : Addr} {xs ys : List V} (hl : H l = some (.lst xs)) : SameT H (upd H l (.lst ys)) := fun b zs e => by
  rw [upd_ne (ne_of e hl (by intro z; cases z))]
  exact e
theorem Same.upd {H0 H : Hp} {l : Addr} {o : HO} (s : Same H0 H) (hl : H0 l = none) : Same H0 (upd H l o) := fun b u e => by
  rw [upd_ne (ne_of_none e hl)]
  exact s b u e
def CompAt (J : It) (fv : List (Str × Nat)) (te : TE) (σ : St) (H1 : Hp) (Q : VK) : Prop := ∀ p,H1 p = none → ∃ W : Nat → Nat → List V → Hp → Prop,(∃ m,W 0 m [] (upd H1 p (.lst []))) ∧ ∀ i m acc H2,W i m acc H2 →
  H2 p = some (.lst acc) ∧ acc.length < sizeLine ∧ ((J.stop i H2 ∧ Q (.ref p) H2) ∨ (J.go i H2 ∧ ∀ x H3,J.yld i H2 x H3 → te (some x :: fvs fv σ) H3 fun y H4 => H4 p = some (.lst acc) ∧ ∃ m',m' < m ∧ W (i + 1) m' (acc ++ [y]) (upd H4 p (.lst (acc ++ [y])))))
def tCompA (wi : TI) (fv : List (Str × Nat)) (te : TE) : TE := fun σ H Q => wi σ H fun J H1 => CompAt J fv te σ H1 Q
section
variable {X : Cx} {scope : Scope} {cl : List (Str × Addr)} {x : Str} {fv : List (Str × Nat)} {elt iter : Expr} {px pos : Pos} {te : TE}
theorem pe_compA {wi : TI} (hcalm : X.calm = true) (C : CompN X scope cl x fv) (hi : PI X (.Name x px) iter wi) (he : ∀ (fp : List Addr) (s₀ : Shared) (H₀ : Hp),PE (X.blk (x :: fv.map (·.1)) scope cl fp s₀ H₀) elt te)
    (hs : ∀ v,foldedSetIterable iter X.env v = pure v := by intro _; rfl) : PE X (.ListComp elt [⟨.Name x px,iter,[],0⟩] scope pos) (tCompA wi fv te) := pe_comp hcalm C hi he hs
theorem ps_setCompA {wi : TI} {y : Str} {j : Nat} {py spos : Pos} (hcalm : X.calm = true) (C : CompN X scope cl x fv) (hN : X.N.Nodup) (hj : X.N[j]? = some y) (hy : X.env.scope.names.lookup y = some .local) (hi : PI X (.Name x px) iter wi) (he : ∀ (fp : List Addr) (s₀ : Shared) (H₀ : Hp),PE (X.blk (x :: fv.map (·.1)) scope cl fp s₀ H₀) elt te)
    (hsw : swapsWith (.ListComp elt [⟨.Name x px,iter,[],0⟩] scope pos) (some (.Name y py)) spos.line X.env = pure true := by rfl)
    (hs : ∀ v,foldedSetIterable iter X.env v = pure v := by intro _; rfl) : PS X (.Assign [.Name y py] (.ListComp elt [⟨.Name x px,iter,[],0⟩] scope pos) spos) (tAsg (tCompA wi fv te) (gName j)) := ps_setComp hcalm C hN hj hy hi he hsw hs
end
theorem comp_R {K : PySem.W.Frag} {a : Addr} {xs : List V} {fv : List (Str × Nat)} {te : TE} {σ : St} {H1 : Hp} {Q : VK} (hL : SqL K H1 a xs) (hlen : xs.length < 1000) (R : Nat → V → Hp → Prop) (hR : ∀ i v H H',SameT H H' → R i v H → R i v H')
    (hs : ∀ i x H2 (Kc : VK),xs[i]? = some x → Same H1 H2 → (∀ y H4,Same H2 H4 → R i y H4 → Kc y H4) → te (some x :: fvs fv σ) H2 Kc)
    (hd : ∀ l ys H',H1 l = none → Same H1 H' → H' l = some (.lst ys) → ys.length = xs.length → (∀ i y,ys[i]? = some y → R i y H') → Q (.ref l) H') :
    CompAt (Itl K a) fv te σ H1 Q := by
  intro l hl
  refine comp_list (K := K) (a := a) (xs := xs) (l := l) (fv := fv) (Qp := fun H2 => Q (.ref l) H2) (fun i acc H2 => acc.length = i ∧ Same H1 H2 ∧ H2 l = some (.lst acc) ∧ ∀ j y,acc[j]? = some y → R j y H2)
    ⟨rfl,Same.new hl,upd_same,fun j y h => by simp at h⟩ ?_ ?_ ?_
  · rintro i acc H2 hi ⟨e1,sm,e3,_⟩
    exact ⟨sm.seq hL,e3,small1000 (by omega)⟩
  · rintro i x acc H2 Kc hx ⟨e1,sm,e3,hr⟩ kk
    refine hs i x H2 Kc hx sm fun y H4 s4 ry => kk y H4 (s4 _ _ e3) ⟨by simp [e1],(sm.trans s4).upd hl,upd_same,fun j z hz => ?_⟩
    have t4 := SameT.upd (ys := acc ++ [y]) (s4 _ _ e3)
    rcases Nat.lt_trichotomy j acc.length with h | h | h
    · rw [List.getElem?_append_left h] at hz
      exact hR _ _ _ _ (s4.t.trans t4) (hr j z hz)
    · subst h
      rw [List.getElem?_append_right (Nat.le_refl _),Nat.sub_self] at hz
      cases hz
      rw [e1]
      exact hR _ _ _ _ t4 ry
    · rw [List.getElem?_eq_none (by simp; omega)] at hz
      cases hz
  · rintro acc H2 ⟨e1,sm,e3,hr⟩
    exact hd l acc H2 hl sm e3 e1 hr
theorem nice_tuple : Nice "tuple" := .inr (.inr (.inl rfl))
theorem nice_list : Nice "list" := .inr (.inr (.inr (.inl rfl)))
theorem nice_str : Nice "str" := .inr (.inr (.inr (.inr rfl)))
end L2
namespace L2
open PySem PySem.Spec PyProof.Rows
section
variable {X : Cx} {pos : Pos} {es : List Expr} {ta : TA}
def tTupA (t : TA) : TE := fun σ H Q => t σ H fun xs H1 => xs.length ≤ sizeLine ∧ ∀ p H2,Same H1 H2 → H2 p = some (.tup xs) → H1 p = none → Q (.ref p) H2
def tLstA (t : TA) : TE := fun σ H Q => t σ H fun xs H1 => xs.length ≤ sizeLine ∧ ∀ p H2,Same H1 H2 → H2 p = some (.lst xs) → H1 p = none → Q (.ref p) H2
theorem pe_tupA {x1} (h : PA X es ta) : PE X (.Tuple es x1 pos) (tTupA ta) := by
  intro pins s σ H Q I hq
  refine wpAny_Tuple_spliced (thn (h pos pins s σ H _ I hq) fun us s1 ⟨xs,H1,I1,r,z,q⟩ => ⟨by rw [← r.length]; exact z,?_⟩)
  have hf : H1 s1.heap.objs.size = none := I1.hok.fresh (Nat.le_refl _)
  refine ⟨.ref s1.heap.objs.size,upd H1 s1.heap.objs.size (.tup xs),I1.laid (t' := s1.toks) (fun b u e => Heap.get?_push_of_some _ e) (Nat.le_refl _) ?_,rfl,q _ _ (Same.new hf) upd_same hf⟩
  exact ⟨z,us,r,⟨_,Heap.get?_push_size _ rfl,rfl,_,rfl⟩⟩
theorem pe_lstA (h : PA X es ta) : PE X (.List es pos) (tLstA ta) := by
  intro pins s σ H Q I hq
  refine wpAny_List_spliced (thn (h pos pins s σ H _ I hq) fun us s1 ⟨xs,H1,I1,r,z,q⟩ => ⟨by rw [← r.length]; exact z,?_⟩)
  have hf : H1 s1.heap.objs.size = none := I1.hok.fresh (Nat.le_refl _)
  refine ⟨.ref s1.heap.objs.size,upd H1 s1.heap.objs.size (.lst xs),I1.laid (t' := s1.toks) (fun b u e => Heap.get?_push_of_some _ e) (Nat.le_refl _) ?_,rfl,q _ _ (Same.new hf) upd_same hf⟩
  exact ⟨z,us,0,r,Heap.get?_push_size _ rfl⟩
def rSlLA (K : PySem.W.Frag) : V → Option Int → Option Int → Hp → VK → Prop := fun x lo hi H Q => ∃ a xs,x = .ref a ∧ SqL K H a xs ∧ ∀ p H2,Same H H2 → H2 p = some (.lst (cutV xs lo hi)) → H p = none → Q (.ref p) H2
theorem sl_listA : SlR X (rSlLA X.K) := fun pins s σ H x v vl vu lo hi sl Q I rx hs pl pu ⟨a,xs,e,hx,q⟩ =>
  sl_list pins s σ H x v vl vu lo hi sl Q I rx hs pl pu ⟨a,xs,e,hx,fun p hp => q p _ (Same.new hp) upd_same hp⟩
def rCatA : R2 := fun x y H Q => ∃ l b xs zs,x = .ref l ∧ y = .ref b ∧ H l = some (.lst xs) ∧ H b = some (.lst zs) ∧ xs.length + zs.length ≤ sizeLine ∧ ∀ p H2,Same H H2 → H2 p = some (.lst (xs ++ zs)) → H p = none → Q (.ref p) H2
theorem op_catA : OpR X (binaryOp .Add) rCatA := fun pins s σ H x y v u Q I rx ry ⟨l,b,xs,zs,e1,e2,h1,h2,hz,q⟩ =>
  op_cat pins s σ H x y v u Q I rx ry ⟨l,b,xs,zs,e1,e2,h1,h2,hz,fun p hp => q p _ (Same.new hp) upd_same hp⟩
def rRepA : R2 := fun x y H Q => ∃ l k xs,x = .ref l ∧ y = .int k ∧ H l = some (.lst xs) ∧ -(2 ^ 63) ≤ k ∧ k < 2 ^ 63 ∧ xs.length * k.toNat ≤ sizeLine ∧ ∀ p H2,Same H H2 → H2 p = some (.lst (List.replicate k.toNat xs).flatten) → H p = none → Q (.ref p) H2
theorem op_repA : OpR X (binaryOp .Mult) rRepA := fun pins s σ H x y v u Q I rx ry ⟨l,k,xs,e1,e2,h1,h2,h3,hz,q⟩ =>
  op_rep pins s σ H x y v u Q I rx ry ⟨l,k,xs,e1,e2,h1,h2,h3,hz,fun p hp => q p _ (Same.new hp) upd_same hp⟩
theorem call_list_ofA : CallR X (.type "list") (fun xs H Q => ∃ p ys,xs = [.ref p] ∧ (SqL X.K H p ys ∨ SqT X.K H p ys) ∧ ∀ l H2,Same H H2 → H2 l = some (.lst ys) → H l = none → Q (.ref l) H2) := fun pins s σ H xs us Q I r ⟨p,ys,e,hq,q⟩ =>
  call_list_of pins s σ H xs us Q I r ⟨p,ys,e,hq,fun l hl => q l _ (Same.new hl) upd_same hl⟩
structure Upd (H H' : Hp) (l : Addr) (xs ys : List V) : Prop where
  was : H l = some (.lst xs)
  now : H' l = some (.lst ys)
  oth : ∀ b,b ≠ l → H' b = H b
theorem Upd.mk' {H : Hp} {l : Addr} {xs ys : List V} (h : H l = some (.lst xs)) : Upd H (L2.upd H l (.lst ys)) l xs ys := ⟨h,upd_same,fun _ n => upd_ne n⟩
theorem Upd.t {H H' : Hp} {l : Addr} {xs ys : List V} (u : Upd H H' l xs ys) : SameT H H' := fun b zs e => by
  rw [u.oth b (ne_of e u.was (by intro z; cases z))]
  exact e
theorem Upd.same {H0 H H' : Hp} {l : Addr} {xs ys : List V} (u : Upd H H' l xs ys) (s : Same H0 H) (h : H0 l = none) : Same H0 H' := fun b o e => by
  rw [u.oth b (ne_of_none e h)]
  exact s b o e
theorem Upd.at {H H' : Hp} {l b : Addr} {xs ys : List V} {o : HO} (u : Upd H H' l xs ys) (n : b ≠ l) (e : H b = some o) : H' b = some o := by
  rw [u.oth b n]
  exact e
def rSetLA : V → V → V → Hp → (Hp → Prop) → Prop := fun o i v H Q => ∃ p xs k j,o = .ref p ∧ i = .int k ∧ H p = some (.lst xs) ∧ ixN xs.length k = some j ∧ ∀ H',Upd H H' p xs (xs.set j v) → Q H'
theorem set_listA : PSet X rSetLA := fun pins s σ H o i v uo ui uv Q I ro ri rv ⟨p,xs,k,j,e1,e2,h,hj,q⟩ =>
  set_list pins s σ H o i v uo ui uv Q I ro ri rv ⟨p,xs,k,j,e1,e2,h,hj,q _ (.mk' h)⟩
end
end L2
namespace L2
open PySem PySem.Spec PyProof.Rows
theorem menu {K : PySem.W.Frag} {H : Hp} {l : Addr} {xs : List V} {i : Int} {Q : VK} (e : H l = some (.lst xs)) (h0 : 0 ≤ i) (h1 : i < (xs.length : Int)) (h : ∀ v ∈ xs,Q v H) : rIxL K (.ref l) (.int i) H Q := by
  obtain ⟨v,hv,mv⟩ := Sp1.atI_mem h0 h1
  exact ⟨l,xs,i,v,rfl,rfl,SqL.of e,hv,h v mv⟩
theorem len3 {α : Type} {xs : List α} (h : xs.length = 3) : ∃ a b c,xs = [a,b,c] := match xs,h with | [a,b,c],_ => ⟨a,b,c,rfl⟩
theorem len2 {α : Type} {xs : List α} (h : xs.length = 2) : ∃ a b,xs = [a,b] := match xs,h with | [a,b],_ => ⟨a,b,rfl⟩
theorem len4 {α : Type} {xs : List α} (h : xs.length = 4) : ∃ a b c d,xs = [a,b,c,d] := match xs,h with | [a,b,c,d],_ => ⟨a,b,c,d,rfl⟩
theorem len5 {α : Type} {xs : List α} (h : xs.length = 5) : ∃ a b c d e,xs = [a,b,c,d,e] := match xs,h with | [a,b,c,d,e],_ => ⟨a,b,c,d,e,rfl⟩
theorem len6 {α : Type} {xs : List α} (h : xs.length = 6) : ∃ a b c d e f,xs = [a,b,c,d,e,f] := match xs,h with | [a,b,c,d,e,f],_ => ⟨a,b,c,d,e,f,rfl⟩
end L2
namespace L2
open PySem PySem.Spec PyProof.Rows
section
variable {X : Cx} {pins : List (Addr × Obj)} {σ : St} {H : Hp} {s : Shared}
theorem Inv.turnedL {h' : Heap} {t' : Nat} {ch : List Addr} (I : Inv X pins σ H s) (k : ∀ b o,b ∉ ch → s.heap.get? b = some o → h'.get? b = some o) (hf : ∀ b ∈ ch,FpOk X pins H b) : Inv X pins σ H { s with heap := h',toks := t' } := by
  have nit : ∀ b u,H b = some u → b ∉ ch := fun b u e z => by
    have n := (hf b z).1
    rw [n] at e
    cases e
  refine I.step (g' := s.gens) (d' := s.drawn) (ch := ch) (fun b hb => ?_) (fun b o _ _ hc e _ => k b o hc e) (fun b o _ _ hc e _ => ⟨o.slots,k b o hc e⟩) (fun _ _ _ _ n => n)
    (fun b o hc e => ⟨o,k b o hc e⟩) (fun _ _ e => e) (fun _ _ _ e => e) (fun b ps e => ⟨#[],by rw [e]; simp⟩) (fun m hm => ?_) (fun b u e => ?_) I.bare
  · obtain ⟨f0,f1,f2,f3,f4,f5⟩ := hf b hb
    exact ⟨f3,f1,f4,f5⟩
  · obtain ⟨o,es,ep,ho,r⟩ := hm
    exact ⟨o,es,ep,k _ o (fun z => (hf _ z).2.1 rfl) ho,r⟩
  · refine (I.hok b u e).stay (fun c v hc q => k c v ?_ q) (fun _ q => q) fun _ _ q => q
    rcases hc with z | z
    · rw [z]; exact nit b u e
    · exact nit c _ z
theorem turn_item {E : Value → Shared → Prop} {elts : List Expr} {kt : Nat} {pos : Pos} {i n : Nat} {z : Addr} {fpw wr : List Addr} {Pt : Nat → Array Value → Prop} {Stt : Nat → Heap → Prop} {Mid : Nat → Addr → Heap → Prop} {R : Value → Shared → Prop}
    (W : WalksT X.prog X.w X.A z fpw wr n Pt Stt Mid) (I : Inv X pins σ H s) (hwr : ∀ b ∈ wr,FpOk X pins H b) (hi : i < n) (st : Stt i s.heap)
    (k : ∀ T vals s2,Pt i vals → s.heap.objs.size ≤ T → s2.heap.IsTuple T vals → Stt (i + 1) s2.heap → Inv X pins σ H s2 → (∀ b o,b ∉ wr → s.heap.get? b = some o → s2.heap.get? b = some o) → R (.ref T) s2) :
    wpAny (model X.prog X.w) X.A (pyNext (.ref z)) (fun r s1 => ∃ u,r = some u ∧ wpAny (model X.prog X.w) X.A (letOwnedTupleGo (.Tuple elts kt pos) (.ref z) u) (fun _ s2 => R u s2) E s1) E s := by
  refine W.item i s _ E hi st fun T vals h' tk hp hT tup mid kk => ⟨.ref T,rfl,?_⟩
  refine W.go elts kt pos i T _ _ E mid fun h2 st2 k2 => ?_
  have kall : ∀ b o,b ∉ wr → s.heap.get? b = some o → h2.get? b = some o := fun b o hb e => k2 b o hb (kk b o hb e)
  obtain ⟨o,eo,ro⟩ := tup
  exact k T vals _ hp hT ⟨o,k2 T o (W.apart i T _ mid) eo,ro⟩ st2 (I.turnedL (t' := tk) kall hwr) kall
theorem track_tup {T : Addr} {s2 : Shared} {xs : List V} {us : List Value} (I : Inv X pins σ H s) (J : Inv X pins σ H s2) (hT : s.heap.objs.size ≤ T) (ht : s2.heap.IsTuple T us.toArray) (r : Vals xs us) (hz : xs.length ≤ sizeLine) : Inv X pins σ (upd H T (.tup xs)) s2 ∧ H T = none := by
  have hn : H T = none := I.hok.fresh hT
  obtain ⟨f0,f1,f2,f3,f4,f5⟩ := I.fpOk hT hn
  refine ⟨J.track hn ?_ f1 f4 f5 ⟨hz,us,r,ht⟩,hn⟩
  cases e : X.s₀.heap.get? T with
  | none => rfl
  | some o =>
    have h1 := Heap.lt_size e
    have h2 := I.sz
    exact absurd (Nat.lt_of_lt_of_le h1 (Nat.le_trans h2 hT)) (Nat.lt_irrefl _)
end
def Ite (K : PySem.W.Frag) (l : Addr) : It :=
  ⟨fun i H => ∃ xs x,SqL K H l xs ∧ xs[i]? = some x,
   fun i H v H' => ∃ p x,v = .ref p ∧ H p = none ∧ H' = upd H p (.tup [.int (i : Int),x]) ∧ ∀ xs,SqL K H l xs → xs[i]? = some x,
   fun i H => ∃ xs,SqL K H l xs ∧ i = xs.length⟩
theorem turn_enum {P : Program} {w : World} {K : PySem.W.Frag} {elts : List Expr} {kt : Nat} {pos : Pos} (e it l : Addr) (hei : e ≠ it) (hle : l ≠ e) (hli : l ≠ it) :
    Turn P w K (.Tuple elts kt pos) (Ite K l) [e,it] e (fun i h => (∃ old,IsEnum h e it i old) ∧ h.IsListIter it l i) where
  mem := by simp
  obj := fun i h st b hb => by
    obtain ⟨⟨old,he⟩,⟨o1,e1,c1,d1⟩⟩ := st
    simp only [List.mem_cons,List.not_mem_nil,or_false] at hb
    rcases hb with rfl | rfl
    · exact ⟨_,he,fun v y => by cases y⟩
    · exact ⟨o1,e1,fun v y => by rw [d1] at y; cases y⟩
  keep := fun i h h' st k => by
    obtain ⟨⟨old,he⟩,h1⟩ := st
    exact ⟨⟨old,k e (by simp) _ he⟩,h1.at fun o x => k it (by simp) o x⟩
  item := by
    intro X hP hw hK hc i pins s σ H E I hf st hg
    subst hP hw hK
    obtain ⟨xs,x,q1,hx⟩ := hg
    obtain ⟨its,r1,p1,_⟩ := I.list q1
    obtain ⟨u1,hu1,ru1⟩ := r1.get hx
    have W := WalksT.enumerate (prog := X.prog) (w := X.w) (I.ok.hd hc) e it l hei hle hli its.toArray
    have hn : i < its.toArray.size := by
      have g1 := (List.getElem?_eq_some_iff.mp hu1).1
      simp only [List.size_toArray]
      omega
    obtain ⟨he,h1⟩ := st
    refine turn_item W I (fun b hb => hf b (by simpa using hb)) hn ⟨he,h1,p1.isList⟩ fun T vals s2 hp hT tup st2 J2 kall => ?_
    obtain ⟨tk,v1,e1,rfl⟩ := hp
    have e1' : its[i]? = some v1 := by simpa using e1
    rw [hu1] at e1'
    cases e1'
    obtain ⟨J3,nT⟩ := track_tup (xs := [.int (i : Int),x]) (us := [.int i tk,u1]) I J2 hT tup (.cons ⟨_,rfl⟩ (.cons ru1 .nil)) (Sp1.sz (by simp))
    obtain ⟨he2,h12,_⟩ := st2
    refine ⟨.ref T,upd H T (.tup [.int (i : Int),x]),J3,rfl,⟨T,x,rfl,nT,rfl,fun as qa => ?_⟩,⟨he2,h12⟩,fun b hb => ?_⟩
    · rw [I.list_inj qa q1]
      exact hx
    · have hb' : ∃ o,s.heap.get? b = some o := by
        obtain ⟨old,he⟩ := he
        obtain ⟨o1,e1,_⟩ := h1
        simp only [List.mem_cons,List.not_mem_nil,or_false] at hb
        rcases hb with rfl | rfl
        · exact ⟨_,he⟩
        · exact ⟨_,e1⟩
      obtain ⟨o,eo⟩ := hb'
      rw [upd_ne (Nat.ne_of_lt (Nat.lt_of_lt_of_le (Heap.lt_size eo) hT))]
      exact (hf b hb).1
  done := by
    intro X hP hw hK hc i pins s σ H E I hf st hg
    subst hP hw hK
    obtain ⟨xs,q1,rfl⟩ := hg
    obtain ⟨its,r1,p1,_⟩ := I.list q1
    have W := WalksT.enumerate (prog := X.prog) (w := X.w) (I.ok.hd hc) e it l hei hle hli its.toArray
    obtain ⟨he,h1⟩ := st
    refine W.done s _ E ?_ fun h' tk kk => ⟨rfl,I.turnedL (t' := tk) kk fun b hb => hf b (by simpa using hb)⟩
    rw [List.size_toArray,← r1.length]
    exact ⟨he,h1,p1.isList⟩
  self := fun _ _ _ _ _ st h => by
    obtain ⟨⟨old,he⟩,_⟩ := st
    exact wpAny_pyIter_enum he h
section
variable {X : Cx} {elts : List Expr} {kt : Nat} {tpos : Pos}
def iEnum (K : PySem.W.Frag) (ta : TA) : TI := fun σ H R => ta σ H fun vs H1 => ∃ a,vs = [.ref a] ∧ (∃ xs,SqL K H1 a xs) ∧ R (Ite K a) H1
theorem bt_enumerate : bootBuiltins "enumerate" = some (.type "enumerate") := by decide +kernel
theorem pi_enum {a : Expr} {ta : TA} {p pos : Pos} (hg : Gl X "enumerate") (hm : X.mg "enumerate" = none) (ha : PA X [a] ta) (hs : starEach [a] X.env = [(false,eval a X.env)] := by rfl) :
    PI X (.Tuple elts kt tpos) (.Call (.Name "enumerate" p) [a] [] pos) (iEnum X.K ta) := by
  intro pins s σ H R I h
  refine Call_ (ld_blt I hg hm bt_enumerate (PyProof.Rows.callWith_type1 (thn (ha pos pins s σ H _ I h) fun us s1 ⟨vs,H1,I1,r1,q1⟩ => ?_) hs rfl))
  obtain ⟨l,e,⟨xs,hx⟩,q⟩ := q1
  subst e
  cases r1 with
  | cons r rr =>
    cases rr
    cases r
    obtain ⟨its,_,p1,_⟩ := I1.list hx
    refine call_enumerate_list p1.isList fun h' he hi hsz hk => ?_
    refine wpAny_pyIter_enum he ?_
    have a1 : l < s1.heap.objs.size := by obtain ⟨_,e,_⟩ := p1.isList; exact Heap.lt_size e
    refine ⟨s1.heap.objs.size + 1,[s1.heap.objs.size + 1,s1.heap.objs.size],_,_,H1,rfl,I1.kept (t' := s1.toks) hk,turn_enum _ _ l (Nat.succ_ne_self _) (Nat.ne_of_lt (Nat.lt_succ_of_lt a1)) (Nat.ne_of_lt a1),⟨⟨_,he⟩,hi⟩,fun b hb => ?_,q⟩
    have hb' : s1.heap.objs.size ≤ b := by
      simp only [List.mem_cons,List.not_mem_nil,or_false] at hb
      rcases hb with rfl | rfl <;> omega
    exact I1.fpOk hb' (I1.hok.fresh hb')
end
theorem for_enum {K : PySem.W.Frag} {a : Addr} {xs : List V} {g : TG} {tb : TS} {D : Ends} {σ : St} {H : Hp} (Pv : Nat → St → Hp → Prop) (h0 : Pv 0 σ H) (hl : ∀ i σ H,i ≤ xs.length → Pv i σ H → SqL K H a xs)
    (hs : ∀ i x p σ H H1,xs[i]? = some x → Pv i σ H → Same H H1 → H1 p = some (.tup [.int (i : Int),x]) → g (.ref p) σ H1 fun σ2 H2 => tb { D with nx := Pv (i + 1),ct := Pv (i + 1),bk := D.nx } σ2 H2) (hd : ∀ σ H,Pv xs.length σ H → D.nx σ H) :
    ∃ W : Nat → Nat → St → Hp → Prop,(∃ m,W 0 m σ H) ∧ ∀ i m σ H,W i m σ H →
      ((Ite K a).stop i H ∧ D.nx σ H) ∨ ((Ite K a).go i H ∧ ∃ N : St → Hp → Prop,(∀ σ' H',N σ' H' → ∃ m',m' < m ∧ W (i + 1) m' σ' H') ∧ ∀ x H',(Ite K a).yld i H x H' → g x σ H' fun σ2 H2 => tb { D with nx := N,ct := N,bk := D.nx } σ2 H2) := by
  refine ⟨fun i m σ H => m = xs.length - i ∧ i ≤ xs.length ∧ Pv i σ H,⟨_,rfl,Nat.zero_le _,h0⟩,?_⟩
  rintro i m σ H ⟨rfl,hi,p⟩
  have q1 := hl i σ H hi p
  by_cases hlt : i < xs.length
  · refine .inr ⟨⟨xs,xs[i],q1,by simp [hlt]⟩,Pv (i + 1),fun σ' H' p' => ⟨_,by omega,rfl,hlt,p'⟩,fun v H' y => ?_⟩
    obtain ⟨t,x,rfl,nt,rfl,e⟩ := y
    exact hs i x t σ H _ (e xs q1) p (Same.new nt) upd_same
  · have e : i = xs.length := by omega
    subst e
    exact .inl ⟨⟨xs,q1,rfl⟩,hd σ H p⟩
end L2
namespace L2
open PySem PySem.Spec PyProof.Rows
inductive D where
  | non | bl (b : Bool) | int (i : Int) | str (x : Str) | tup (ds : List D) | lst (ds : List D)
inductive Rp (H : Hp) : Nat → V → D → Prop where
  | non {n : Nat} : Rp H n .non .non
  | bl {n : Nat} {b : Bool} : Rp H n (.bl b) (.bl b)
  | int {n : Nat} {i : Int} : Rp H n (.int i) (.int i)
  | str {n : Nat} {x : Str} : Rp H n (.str x) (.str x)
  | tup {n : Nat} {p : Addr} {xs : List V} {ds : List D} (e : H p = some (.tup xs)) (hl : xs.length = ds.length) (h : ∀ (j : Nat) x d,xs[j]? = some x → ds[j]? = some d → Rp H n x d) : Rp H (n + 1) (.ref p) (.tup ds)
  | lst {n : Nat} {p : Addr} {xs : List V} {ds : List D} (e : H p = some (.lst xs)) (hl : xs.length = ds.length) (h : ∀ (j : Nat) x d,xs[j]? = some x → ds[j]? = some d → Rp H n x d) : Rp H (n + 1) (.ref p) (.lst ds)
mutual
def deq : D → D → Bool
  | .non,.non => true
  | .bl a,.bl b => a == b
  | .bl a,.int b => (if a then 1 else 0) == b
  | .int a,.bl b => a == (if b then 1 else 0)
  | .int a,.int b => a == b
  | .str a,.str b => a == b
  | .tup xs,.tup ys => deqs xs ys
  | .lst xs,.lst ys => deqs xs ys
  | _,_ => false
def deqs : List D → List D → Bool
  | [],[] => true
  | x :: xs,y :: ys => deq x y && deqs xs ys
  | _,_ => false
end
theorem deqs_all : ∀ (ds es : List D),((List.range (min ds.length es.length)).all (fun j => deq (ds.getD j .non) (es.getD j .non)) && ds.length == es.length) = deqs ds es
  | [],[] => by simp [deqs]
  | [],e :: es => by simp [deqs]
  | d :: ds,[] => by simp [deqs]
  | d :: ds,e :: es => by
    have ih := deqs_all ds es
    have hm : min (d :: ds).length (e :: es).length = min ds.length es.length + 1 := by simp only [List.length_cons]; omega
    rw [hm,List.range_succ_eq_map,List.all_cons,List.all_map]
    simp only [deqs,List.getD_cons_zero,List.length_cons]
    rw [← ih,Bool.and_assoc]
    congr 1
    simp [Function.comp_def]
theorem deqs_len {ds es : List D} (h : ds.length ≠ es.length) : deqs ds es = false := by
  rw [← deqs_all]
  simp [h]
theorem deqs_all' {ds es : List D} (h : ds.length = es.length) : (List.range ds.length).all (fun j => deq (ds.getD j .non) (es.getD j .non)) = deqs ds es := by
  rw [← deqs_all,h]
  simp
theorem deqs_of {ds es : List D} (hl : ds.length = es.length) (h : ∀ (j : Nat) d e,ds[j]? = some d → es[j]? = some e → deq d e = true) : deqs ds es = true := by
  rw [← deqs_all' hl,List.all_eq_true]
  intro j hj
  have hj' : j < ds.length := List.mem_range.mp hj
  have hj2 : j < es.length := by omega
  have e1 : ds[j]? = some ds[j] := List.getElem?_eq_getElem hj'
  have e2 : es[j]? = some es[j] := List.getElem?_eq_getElem hj2
  rw [List.getD_eq_getElem?_getD,List.getD_eq_getElem?_getD,e1,e2]
  exact h j _ _ e1 e2
theorem get_of_len {α β : Type} {xs : List α} {ds : List β} {j : Nat} {d : β} (hl : xs.length = ds.length) (h : ds[j]? = some d) : ∃ x,xs[j]? = some x := by
  have := (List.getElem?_eq_some_iff.mp h).1
  exact ⟨xs[j],List.getElem?_eq_getElem (by omega)⟩
theorem Rp.self {H : Hp} {n m : Nat} {v : V} {d e : D} (r : Rp H n v d) (q : Rp H m v e) : deq d e = true := by
  induction r generalizing m e with
  | non => cases q; rfl
  | bl => cases q; simp [deq]
  | int => cases q; simp [deq]
  | str => cases q; simp [deq]
  | tup e1 hl h ih =>
    cases q with
    | tup e2 hl2 h2 =>
      rw [e1] at e2
      cases e2
      refine deqs_of (by omega) fun j a b ea eb => ?_
      obtain ⟨x,hx⟩ := get_of_len hl ea
      exact ih j x a hx ea (h2 j x b hx eb)
    | lst e2 hl2 h2 => rw [e1] at e2; cases e2
  | lst e1 hl h ih =>
    cases q with
    | tup e2 hl2 h2 => rw [e1] at e2; cases e2
    | lst e2 hl2 h2 =>
      rw [e1] at e2
      cases e2
      refine deqs_of (by omega) fun j a b ea eb => ?_
      obtain ⟨x,hx⟩ := get_of_len hl ea
      exact ih j x a hx ea (h2 j x b hx eb)
section
variable {X : Cx} {pins : List (Addr × Obj)} {σ : St} {H : Hp} {s : Shared}
theorem elts_at {A : Around} {xs ys : List V} {us ws : List Value} {ds es : List D} (r : Vals xs us) (r' : Vals ys ws) (hl : xs.length = ds.length) (hl' : ys.length = es.length)
    (h : ∀ (j : Nat) x y d e u w,xs[j]? = some x → ys[j]? = some y → ds[j]? = some d → es[j]? = some e → RelV x u → RelV y w → SeqAt.EqAt A s u w (deq d e))
    (j : Nat) (h1 : j < us.toArray.size) (h2 : j < ws.toArray.size) : SeqAt.EqAt A s us.toArray[j] ws.toArray[j] (deq (ds.getD j .non) (es.getD j .non)) := by
  rw [List.size_toArray] at h1 h2
  obtain ⟨a,ea,ra⟩ := val_get r h1
  obtain ⟨c,ec,rc⟩ := val_get r' h2
  have g1 := (List.getElem?_eq_some_iff.mp ea).1
  have g2 := (List.getElem?_eq_some_iff.mp ec).1
  have e1 : ds[j]? = some ds[j] := List.getElem?_eq_getElem (by omega)
  have e2 : es[j]? = some es[j] := List.getElem?_eq_getElem (by omega)
  rw [List.getD_eq_getElem?_getD,List.getD_eq_getElem?_getD,e1,e2]
  exact h j a c _ _ _ _ ea ec e1 e2 ra rc
theorem Rp.eqAt {n : Nat} {x : V} {d : D} (r : Rp H n x d) : ∀ {m : Nat} {y : V} {e : D} {A : Around} {u v : Value},Rp H m y e → Inv X pins σ H s → RelV x u → RelV y v → A.units + n < cLine → SeqAt.EqAt A s u v (deq d e) := by
  induction r with
  | non =>
    intro m y e A u v q I ru rv hu
    cases ru
    cases q with
    | non => cases rv; exact SeqAt.EqAt.same _
    | bl => cases rv; exact SeqAt.EqAt.none_bool _
    | int => obtain ⟨_,rfl⟩ := rv; exact SeqAt.EqAt.none_int _ _
    | str => obtain ⟨_,rfl⟩ := rv; exact SeqAt.EqAt.none_str _ _
    | tup e1 hl h => cases rv; obtain ⟨its,_,pl,_⟩ := I.tuple (SqT.of e1); exact SeqAt.EqAt.none_tuple pl (by omega)
    | lst e1 hl h => cases rv; obtain ⟨its,_,pl,_⟩ := I.list (SqL.of e1); exact SeqAt.EqAt.none_list pl.isList (by omega)
  | bl =>
    intro m y e A u v q I ru rv hu
    cases ru
    cases q with
    | non => cases rv; exact SeqAt.EqAt.bool_none _
    | bl => cases rv; exact SeqAt.EqAt.bool_bool _ _
    | int => obtain ⟨_,rfl⟩ := rv; exact SeqAt.EqAt.bool_int _ _ _
    | str => obtain ⟨_,rfl⟩ := rv; exact SeqAt.EqAt.bool_str _ _ _
    | tup e1 hl h => cases rv; obtain ⟨its,_,pl,_⟩ := I.tuple (SqT.of e1); exact SeqAt.EqAt.bool_tuple _ pl (by omega)
    | lst e1 hl h => cases rv; obtain ⟨its,_,pl,_⟩ := I.list (SqL.of e1); exact SeqAt.EqAt.bool_list _ pl.isList (by omega)
  | int =>
    intro m y e A u v q I ru rv hu
    obtain ⟨_,rfl⟩ := ru
    cases q with
    | non => cases rv; exact SeqAt.EqAt.int_none _ _
    | bl => cases rv; exact SeqAt.EqAt.int_bool _ _ _
    | int => obtain ⟨_,rfl⟩ := rv; exact SeqAt.EqAt.int_int _ _ _ _
    | str => obtain ⟨_,rfl⟩ := rv; exact SeqAt.EqAt.int_str _ _ _ _
    | tup e1 hl h => cases rv; obtain ⟨its,_,pl,_⟩ := I.tuple (SqT.of e1); exact SeqAt.EqAt.int_tuple _ _ pl (by omega)
    | lst e1 hl h => cases rv; obtain ⟨its,_,pl,_⟩ := I.list (SqL.of e1); exact SeqAt.EqAt.int_list _ _ pl.isList (by omega)
  | str =>
    intro m y e A u v q I ru rv hu
    obtain ⟨_,rfl⟩ := ru
    cases q with
    | non => cases rv; exact SeqAt.EqAt.str_none _ _
    | bl => cases rv; exact SeqAt.EqAt.str_bool _ _ _
    | int => obtain ⟨_,rfl⟩ := rv; exact SeqAt.EqAt.str_int _ _ _ _
    | str => obtain ⟨_,rfl⟩ := rv; exact SeqAt.EqAt.str_str _ _ _ _
    | tup e1 hl h => cases rv; obtain ⟨its,_,pl,_⟩ := I.tuple (SqT.of e1); exact SeqAt.EqAt.str_tuple _ _ pl (by omega)
    | lst e1 hl h => cases rv; obtain ⟨its,_,pl,_⟩ := I.list (SqL.of e1); exact SeqAt.EqAt.str_list _ _ pl.isList (by omega)
  | @tup n p xs ds e0 hl h ih =>
    intro m y e A u v q I ru rv hu
    cases ru
    obtain ⟨its,r1,pl,_⟩ := I.tuple (SqT.of e0)
    cases q with
    | non => cases rv; exact SeqAt.EqAt.tuple_none pl (by omega)
    | bl => cases rv; exact SeqAt.EqAt.tuple_bool _ pl (by omega)
    | int => obtain ⟨_,rfl⟩ := rv; exact SeqAt.EqAt.tuple_int _ _ pl (by omega)
    | str => obtain ⟨_,rfl⟩ := rv; exact SeqAt.EqAt.tuple_str _ _ pl (by omega)
    | lst e1 hl1 h1 => cases rv; obtain ⟨jts,_,pl',_⟩ := I.list (SqL.of e1); exact SeqAt.EqAt.tuple_list pl pl'.isList (by omega)
    | @tup m p' ys es e1 hl1 h1 =>
      cases rv
      by_cases hne : p = p'
      · subst hne
        have z : deq (.tup ds) (.tup es) = true := Rp.self (Rp.tup e0 hl h) (Rp.tup e1 hl1 h1)
        rw [z]
        exact SeqAt.EqAt.same _
      · obtain ⟨jts,r2,pl',_⟩ := I.tuple (SqT.of e1)
        have y := SeqAt.RcAt.tuples (A := A) (e := fun j => deq (ds.getD j .non) (es.getD j .non)) pl pl' (by omega) (elts_at r1 r2 hl hl1 fun j x y d e u w a b c k ra rb => ih j x d a c (h1 j y e b k) I ra rb (by show A.units + 1 + n < cLine; omega))
        rw [List.size_toArray,List.size_toArray,← r1.length,← r2.length,hl,hl1,deqs_all] at y
        exact SeqAt.EqAt.of_refs hne y
  | @lst n p xs ds e0 hl h ih =>
    intro m y e A u v q I ru rv hu
    cases ru
    obtain ⟨its,r1,pl,_⟩ := I.list (SqL.of e0)
    cases q with
    | non => cases rv; exact SeqAt.EqAt.list_none pl.isList (by omega)
    | bl => cases rv; exact SeqAt.EqAt.list_bool _ pl.isList (by omega)
    | int => obtain ⟨_,rfl⟩ := rv; exact SeqAt.EqAt.list_int _ _ pl.isList (by omega)
    | str => obtain ⟨_,rfl⟩ := rv; exact SeqAt.EqAt.list_str _ _ pl.isList (by omega)
    | tup e1 hl1 h1 => cases rv; obtain ⟨jts,_,pl',_⟩ := I.tuple (SqT.of e1); exact SeqAt.EqAt.list_tuple pl.isList pl' (by omega)
    | @lst m p' ys es e1 hl1 h1 =>
      cases rv
      by_cases hne : p = p'
      · subst hne
        have z : deq (.lst ds) (.lst es) = true := Rp.self (Rp.lst e0 hl h) (Rp.lst e1 hl1 h1)
        rw [z]
        exact SeqAt.EqAt.same _
      · obtain ⟨jts,r2,pl',_⟩ := I.list (SqL.of e1)
        have g1 := r1.length
        have g2 := r2.length
        by_cases hz : ds.length = es.length
        · have y := SeqAt.RcAt.lists (A := A) (e := fun j => deq (ds.getD j .non) (es.getD j .non)) pl.isList pl'.isList (by rw [List.size_toArray,List.size_toArray]; omega) (by omega) (elts_at r1 r2 hl hl1 fun j x y d e u w a b c k ra rb => ih j x d a c (h1 j y e b k) I ra rb (by show A.units + 1 + n < cLine; omega))
          rw [List.size_toArray,← r1.length,hl,deqs_all' hz] at y
          exact SeqAt.EqAt.of_refs hne y
        · rw [show deq (.lst ds) (.lst es) = false from deqs_len hz]
          exact SeqAt.EqAt.of_refs hne (SeqAt.RcAt.lists_lengths pl.isList pl'.isList (by rw [List.size_toArray,List.size_toArray]; simp; omega) (by omega))
end
end L2
namespace L2
open PySem PySem.Spec PyProof.Rows
section
variable {X : Cx} {pins : List (Addr × Obj)} {σ : St} {H : Hp} {s : Shared}
theorem Rp.rcAt {A : Around} {n m : Nat} {x y : V} {d e : D} {u v : Value} (r : Rp H n x d) (q : Rp H m y e) (I : Inv X pins σ H s) (ru : RelV x u) (rv : RelV y v) (hu : A.units + n + 1 < cLine) : SeqAt.RcAt A s u v (deq d e) := by
  cases r with
  | non =>
    cases q with
    | non =>
      cases ru
      cases rv
      exact SeqAt.RcAt.none_none
    | bl =>
      cases ru
      cases rv
      exact SeqAt.RcAt.none_bool _
    | int =>
      cases ru
      obtain ⟨_,rfl⟩ := rv
      exact SeqAt.RcAt.none_int _ _
    | str =>
      cases ru
      obtain ⟨_,rfl⟩ := rv
      exact SeqAt.RcAt.none_str _ _
    | @tup m p' ys es e1 hl1 h1 =>
      cases ru
      cases rv
      obtain ⟨jts,r2,pl',_⟩ := I.tuple (SqT.of e1)
      exact SeqAt.RcAt.none_tuple pl' (by omega)
    | @lst m p' ys es e1 hl1 h1 =>
      cases ru
      cases rv
      obtain ⟨jts,r2,pl',_⟩ := I.list (SqL.of e1)
      exact SeqAt.RcAt.none_list pl'.isList (by omega)
  | bl =>
    cases q with
    | non =>
      cases ru
      cases rv
      exact SeqAt.RcAt.bool_none _
    | bl =>
      cases ru
      cases rv
      exact SeqAt.RcAt.bool_bool _ _
    | int =>
      cases ru
      obtain ⟨_,rfl⟩ := rv
      exact SeqAt.RcAt.bool_int _ _ _
    | str =>
      cases ru
      obtain ⟨_,rfl⟩ := rv
      exact SeqAt.RcAt.bool_str _ _ _
    | @tup m p' ys es e1 hl1 h1 =>
      cases ru
      cases rv
      obtain ⟨jts,r2,pl',_⟩ := I.tuple (SqT.of e1)
      exact SeqAt.RcAt.bool_tuple _ pl' (by omega)
    | @lst m p' ys es e1 hl1 h1 =>
      cases ru
      cases rv
      obtain ⟨jts,r2,pl',_⟩ := I.list (SqL.of e1)
      exact SeqAt.RcAt.bool_list _ pl'.isList (by omega)
  | int =>
    cases q with
    | non =>
      obtain ⟨_,rfl⟩ := ru
      cases rv
      exact SeqAt.RcAt.int_none _ _
    | bl =>
      obtain ⟨_,rfl⟩ := ru
      cases rv
      exact SeqAt.RcAt.int_bool _ _ _
    | int =>
      obtain ⟨_,rfl⟩ := ru
      obtain ⟨_,rfl⟩ := rv
      exact SeqAt.RcAt.int_int _ _ _ _
    | str =>
      obtain ⟨_,rfl⟩ := ru
      obtain ⟨_,rfl⟩ := rv
      exact SeqAt.RcAt.int_str _ _ _ _
    | @tup m p' ys es e1 hl1 h1 =>
      obtain ⟨_,rfl⟩ := ru
      cases rv
      obtain ⟨jts,r2,pl',_⟩ := I.tuple (SqT.of e1)
      exact SeqAt.RcAt.int_tuple _ _ pl' (by omega)
    | @lst m p' ys es e1 hl1 h1 =>
      obtain ⟨_,rfl⟩ := ru
      cases rv
      obtain ⟨jts,r2,pl',_⟩ := I.list (SqL.of e1)
      exact SeqAt.RcAt.int_list _ _ pl'.isList (by omega)
  | str =>
    cases q with
    | non =>
      obtain ⟨_,rfl⟩ := ru
      cases rv
      exact SeqAt.RcAt.str_none _ _
    | bl =>
      obtain ⟨_,rfl⟩ := ru
      cases rv
      exact SeqAt.RcAt.str_bool _ _ _
    | int =>
      obtain ⟨_,rfl⟩ := ru
      obtain ⟨_,rfl⟩ := rv
      exact SeqAt.RcAt.str_int _ _ _ _
    | str =>
      obtain ⟨_,rfl⟩ := ru
      obtain ⟨_,rfl⟩ := rv
      exact SeqAt.RcAt.str_str _ _ _ _
    | @tup m p' ys es e1 hl1 h1 =>
      obtain ⟨_,rfl⟩ := ru
      cases rv
      obtain ⟨jts,r2,pl',_⟩ := I.tuple (SqT.of e1)
      exact SeqAt.RcAt.str_tuple _ _ pl' (by omega)
    | @lst m p' ys es e1 hl1 h1 =>
      obtain ⟨_,rfl⟩ := ru
      cases rv
      obtain ⟨jts,r2,pl',_⟩ := I.list (SqL.of e1)
      exact SeqAt.RcAt.str_list _ _ pl'.isList (by omega)
  | @tup n p xs ds e0 hl h =>
    cases q with
    | non =>
      cases ru
      cases rv
      obtain ⟨its,r1,pl,_⟩ := I.tuple (SqT.of e0)
      exact SeqAt.RcAt.tuple_none pl (by omega)
    | bl =>
      cases ru
      cases rv
      obtain ⟨its,r1,pl,_⟩ := I.tuple (SqT.of e0)
      exact SeqAt.RcAt.tuple_bool _ pl (by omega)
    | int =>
      cases ru
      obtain ⟨_,rfl⟩ := rv
      obtain ⟨its,r1,pl,_⟩ := I.tuple (SqT.of e0)
      exact SeqAt.RcAt.tuple_int _ _ pl (by omega)
    | str =>
      cases ru
      obtain ⟨_,rfl⟩ := rv
      obtain ⟨its,r1,pl,_⟩ := I.tuple (SqT.of e0)
      exact SeqAt.RcAt.tuple_str _ _ pl (by omega)
    | @tup m p' ys es e1 hl1 h1 =>
      cases ru
      cases rv
      obtain ⟨its,r1,pl,_⟩ := I.tuple (SqT.of e0)
      obtain ⟨jts,r2,pl',_⟩ := I.tuple (SqT.of e1)
      have y := SeqAt.RcAt.tuples (A := A) (e := fun j => deq (ds.getD j .non) (es.getD j .non)) pl pl' (by omega) (elts_at r1 r2 hl hl1 fun j x y d e u w a b c k ra rb => (h j x d a c).eqAt (h1 j y e b k) I ra rb (by show A.units + 1 + _ < cLine; omega))
      rw [List.size_toArray,List.size_toArray,← r1.length,← r2.length,hl,hl1,deqs_all] at y
      exact y
    | @lst m p' ys es e1 hl1 h1 =>
      cases ru
      cases rv
      obtain ⟨its,r1,pl,_⟩ := I.tuple (SqT.of e0)
      obtain ⟨jts,r2,pl',_⟩ := I.list (SqL.of e1)
      exact SeqAt.RcAt.tuple_list pl pl'.isList (by omega)
  | @lst n p xs ds e0 hl h =>
    cases q with
    | non =>
      cases ru
      cases rv
      obtain ⟨its,r1,pl,_⟩ := I.list (SqL.of e0)
      exact SeqAt.RcAt.list_none pl.isList (by omega)
    | bl =>
      cases ru
      cases rv
      obtain ⟨its,r1,pl,_⟩ := I.list (SqL.of e0)
      exact SeqAt.RcAt.list_bool _ pl.isList (by omega)
    | int =>
      cases ru
      obtain ⟨_,rfl⟩ := rv
      obtain ⟨its,r1,pl,_⟩ := I.list (SqL.of e0)
      exact SeqAt.RcAt.list_int _ _ pl.isList (by omega)
    | str =>
      cases ru
      obtain ⟨_,rfl⟩ := rv
      obtain ⟨its,r1,pl,_⟩ := I.list (SqL.of e0)
      exact SeqAt.RcAt.list_str _ _ pl.isList (by omega)
    | @tup m p' ys es e1 hl1 h1 =>
      cases ru
      cases rv
      obtain ⟨its,r1,pl,_⟩ := I.list (SqL.of e0)
      obtain ⟨jts,r2,pl',_⟩ := I.tuple (SqT.of e1)
      exact SeqAt.RcAt.list_tuple pl.isList pl' (by omega)
    | @lst m p' ys es e1 hl1 h1 =>
      cases ru
      cases rv
      obtain ⟨its,r1,pl,_⟩ := I.list (SqL.of e0)
      obtain ⟨jts,r2,pl',_⟩ := I.list (SqL.of e1)
      have g1 := r1.length
      have g2 := r2.length
      by_cases hz : ds.length = es.length
      · have y := SeqAt.RcAt.lists (A := A) (e := fun j => deq (ds.getD j .non) (es.getD j .non)) pl.isList pl'.isList (by rw [List.size_toArray,List.size_toArray]; omega) (by omega) (elts_at r1 r2 hl hl1 fun j x y d e u w a b c k ra rb => (h j x d a c).eqAt (h1 j y e b k) I ra rb (by show A.units + 1 + _ < cLine; omega))
        rw [List.size_toArray,← r1.length,hl,deqs_all' hz] at y
        exact y
      · rw [show deq (.lst ds) (.lst es) = false from deqs_len hz]
        exact SeqAt.RcAt.lists_lengths pl.isList pl'.isList (by rw [List.size_toArray,List.size_toArray]; simp; omega) (by omega)
theorem Rp.rcNeAt {A : Around} {n m : Nat} {x y : V} {d e : D} {u v : Value} (r : Rp H n x d) (q : Rp H m y e) (I : Inv X pins σ H s) (ru : RelV x u) (rv : RelV y v) (hu : A.units + n + 1 < cLine) : SeqAt.RcNeAt A s u v (!(deq d e)) := by
  cases r with
  | non =>
    cases q with
    | non =>
      cases ru
      cases rv
      exact SeqAt.RcNeAt.none_none
    | bl =>
      cases ru
      cases rv
      exact SeqAt.RcNeAt.none_bool _
    | int =>
      cases ru
      obtain ⟨_,rfl⟩ := rv
      exact SeqAt.RcNeAt.none_int _ _
    | str =>
      cases ru
      obtain ⟨_,rfl⟩ := rv
      exact SeqAt.RcNeAt.none_str _ _
    | @tup m p' ys es e1 hl1 h1 =>
      cases ru
      cases rv
      obtain ⟨jts,r2,pl',_⟩ := I.tuple (SqT.of e1)
      exact SeqAt.RcNeAt.none_tuple pl' (by omega)
    | @lst m p' ys es e1 hl1 h1 =>
      cases ru
      cases rv
      obtain ⟨jts,r2,pl',_⟩ := I.list (SqL.of e1)
      exact SeqAt.RcNeAt.none_list pl'.isList (by omega)
  | bl =>
    cases q with
    | non =>
      cases ru
      cases rv
      exact SeqAt.RcNeAt.bool_none _
    | bl =>
      cases ru
      cases rv
      exact SeqAt.RcNeAt.bool_bool _ _
    | int =>
      cases ru
      obtain ⟨_,rfl⟩ := rv
      exact SeqAt.RcNeAt.bool_int _ _ _
    | str =>
      cases ru
      obtain ⟨_,rfl⟩ := rv
      exact SeqAt.RcNeAt.bool_str _ _ _
    | @tup m p' ys es e1 hl1 h1 =>
      cases ru
      cases rv
      obtain ⟨jts,r2,pl',_⟩ := I.tuple (SqT.of e1)
      exact SeqAt.RcNeAt.bool_tuple _ pl' (by omega)
    | @lst m p' ys es e1 hl1 h1 =>
      cases ru
      cases rv
      obtain ⟨jts,r2,pl',_⟩ := I.list (SqL.of e1)
      exact SeqAt.RcNeAt.bool_list _ pl'.isList (by omega)
  | int =>
    cases q with
    | non =>
      obtain ⟨_,rfl⟩ := ru
      cases rv
      exact SeqAt.RcNeAt.int_none _ _
    | bl =>
      obtain ⟨_,rfl⟩ := ru
      cases rv
      exact SeqAt.RcNeAt.int_bool _ _ _
    | int =>
      obtain ⟨_,rfl⟩ := ru
      obtain ⟨_,rfl⟩ := rv
      exact SeqAt.RcNeAt.int_int _ _ _ _
    | str =>
      obtain ⟨_,rfl⟩ := ru
      obtain ⟨_,rfl⟩ := rv
      exact SeqAt.RcNeAt.int_str _ _ _ _
    | @tup m p' ys es e1 hl1 h1 =>
      obtain ⟨_,rfl⟩ := ru
      cases rv
      obtain ⟨jts,r2,pl',_⟩ := I.tuple (SqT.of e1)
      exact SeqAt.RcNeAt.int_tuple _ _ pl' (by omega)
    | @lst m p' ys es e1 hl1 h1 =>
      obtain ⟨_,rfl⟩ := ru
      cases rv
      obtain ⟨jts,r2,pl',_⟩ := I.list (SqL.of e1)
      exact SeqAt.RcNeAt.int_list _ _ pl'.isList (by omega)
  | str =>
    cases q with
    | non =>
      obtain ⟨_,rfl⟩ := ru
      cases rv
      exact SeqAt.RcNeAt.str_none _ _
    | bl =>
      obtain ⟨_,rfl⟩ := ru
      cases rv
      exact SeqAt.RcNeAt.str_bool _ _ _
    | int =>
      obtain ⟨_,rfl⟩ := ru
      obtain ⟨_,rfl⟩ := rv
      exact SeqAt.RcNeAt.str_int _ _ _ _
    | str =>
      obtain ⟨_,rfl⟩ := ru
      obtain ⟨_,rfl⟩ := rv
      exact SeqAt.RcNeAt.str_str _ _ _ _
    | @tup m p' ys es e1 hl1 h1 =>
      obtain ⟨_,rfl⟩ := ru
      cases rv
      obtain ⟨jts,r2,pl',_⟩ := I.tuple (SqT.of e1)
      exact SeqAt.RcNeAt.str_tuple _ _ pl' (by omega)
    | @lst m p' ys es e1 hl1 h1 =>
      obtain ⟨_,rfl⟩ := ru
      cases rv
      obtain ⟨jts,r2,pl',_⟩ := I.list (SqL.of e1)
      exact SeqAt.RcNeAt.str_list _ _ pl'.isList (by omega)
  | @tup n p xs ds e0 hl h =>
    cases q with
    | non =>
      cases ru
      cases rv
      obtain ⟨its,r1,pl,_⟩ := I.tuple (SqT.of e0)
      exact SeqAt.RcNeAt.tuple_none pl (by omega)
    | bl =>
      cases ru
      cases rv
      obtain ⟨its,r1,pl,_⟩ := I.tuple (SqT.of e0)
      exact SeqAt.RcNeAt.tuple_bool _ pl (by omega)
    | int =>
      cases ru
      obtain ⟨_,rfl⟩ := rv
      obtain ⟨its,r1,pl,_⟩ := I.tuple (SqT.of e0)
      exact SeqAt.RcNeAt.tuple_int _ _ pl (by omega)
    | str =>
      cases ru
      obtain ⟨_,rfl⟩ := rv
      obtain ⟨its,r1,pl,_⟩ := I.tuple (SqT.of e0)
      exact SeqAt.RcNeAt.tuple_str _ _ pl (by omega)
    | @tup m p' ys es e1 hl1 h1 =>
      cases ru
      cases rv
      obtain ⟨its,r1,pl,_⟩ := I.tuple (SqT.of e0)
      obtain ⟨jts,r2,pl',_⟩ := I.tuple (SqT.of e1)
      have y := SeqAt.RcNeAt.tuples (A := A) (e := fun j => deq (ds.getD j .non) (es.getD j .non)) pl pl' (by omega) (elts_at r1 r2 hl hl1 fun j x y d e u w a b c k ra rb => (h j x d a c).eqAt (h1 j y e b k) I ra rb (by show A.units + 1 + _ < cLine; omega))
      rw [List.size_toArray,List.size_toArray,← r1.length,← r2.length,hl,hl1,deqs_all] at y
      exact y
    | @lst m p' ys es e1 hl1 h1 =>
      cases ru
      cases rv
      obtain ⟨its,r1,pl,_⟩ := I.tuple (SqT.of e0)
      obtain ⟨jts,r2,pl',_⟩ := I.list (SqL.of e1)
      exact SeqAt.RcNeAt.tuple_list pl pl'.isList (by omega)
  | @lst n p xs ds e0 hl h =>
    cases q with
    | non =>
      cases ru
      cases rv
      obtain ⟨its,r1,pl,_⟩ := I.list (SqL.of e0)
      exact SeqAt.RcNeAt.list_none pl.isList (by omega)
    | bl =>
      cases ru
      cases rv
      obtain ⟨its,r1,pl,_⟩ := I.list (SqL.of e0)
      exact SeqAt.RcNeAt.list_bool _ pl.isList (by omega)
    | int =>
      cases ru
      obtain ⟨_,rfl⟩ := rv
      obtain ⟨its,r1,pl,_⟩ := I.list (SqL.of e0)
      exact SeqAt.RcNeAt.list_int _ _ pl.isList (by omega)
    | str =>
      cases ru
      obtain ⟨_,rfl⟩ := rv
      obtain ⟨its,r1,pl,_⟩ := I.list (SqL.of e0)
      exact SeqAt.RcNeAt.list_str _ _ pl.isList (by omega)
    | @tup m p' ys es e1 hl1 h1 =>
      cases ru
      cases rv
      obtain ⟨its,r1,pl,_⟩ := I.list (SqL.of e0)
      obtain ⟨jts,r2,pl',_⟩ := I.tuple (SqT.of e1)
      exact SeqAt.RcNeAt.list_tuple pl.isList pl' (by omega)
    | @lst m p' ys es e1 hl1 h1 =>
      cases ru
      cases rv
      obtain ⟨its,r1,pl,_⟩ := I.list (SqL.of e0)
      obtain ⟨jts,r2,pl',_⟩ := I.list (SqL.of e1)
      have g1 := r1.length
      have g2 := r2.length
      by_cases hz : ds.length = es.length
      · have y := SeqAt.RcNeAt.lists (A := A) (e := fun j => deq (ds.getD j .non) (es.getD j .non)) pl.isList pl'.isList (by rw [List.size_toArray,List.size_toArray]; omega) (by omega) (elts_at r1 r2 hl hl1 fun j x y d e u w a b c k ra rb => (h j x d a c).eqAt (h1 j y e b k) I ra rb (by show A.units + 1 + _ < cLine; omega))
        rw [List.size_toArray,← r1.length,hl,deqs_all' hz] at y
        exact y
      · rw [show deq (.lst ds) (.lst es) = false from deqs_len hz]
        exact SeqAt.RcNeAt.lists_lengths pl.isList pl'.isList (by rw [List.size_toArray,List.size_toArray]; simp; omega) (by omega)
end
section
variable {X : Cx}
def rEqD (neg : Bool) : R2 := fun x y H Q => ∃ d e,Rp H 9 x d ∧ Rp H 9 y e ∧ Q (.bl (if neg then !(deq d e) else deq d e)) H
theorem op_eqD (hu : X.A.units + 10 < cLine) : OpR X (compareOp .Eq) (rEqD false) := by
  intro pins s σ H x y v u Q I rx ry h
  obtain ⟨d,e,rd,re,k⟩ := h
  exact rd.rcAt re I rx ry (by omega) _ _ _ _ ⟨.bl _,H,I,rfl,k⟩
theorem op_neD (hu : X.A.units + 10 < cLine) : OpR X (compareOp .NotEq) (rEqD true) := by
  intro pins s σ H x y v u Q I rx ry h
  obtain ⟨d,e,rd,re,k⟩ := h
  exact rd.rcNeAt re I rx ry (by omega) _ _ _ _ ⟨.bl _,H,I,rfl,k⟩
end
section
variable {H : Hp} {n : Nat} {p : Addr} {x y z w : V} {a b c d : D}
theorem Rp.t2 (e : H p = some (.tup [x,y])) (ha : Rp H n x a) (hb : Rp H n y b) : Rp H (n + 1) (.ref p) (.tup [a,b]) := .tup e rfl fun j x d h k => by
  match j with
  | 0 => cases h; cases k; exact ha
  | 1 => cases h; cases k; exact hb
  | j + 2 => simp at h
theorem Rp.t3 (e : H p = some (.tup [x,y,z])) (ha : Rp H n x a) (hb : Rp H n y b) (hc : Rp H n z c) : Rp H (n + 1) (.ref p) (.tup [a,b,c]) := .tup e rfl fun j x d h k => by
  match j with
  | 0 => cases h; cases k; exact ha
  | 1 => cases h; cases k; exact hb
  | 2 => cases h; cases k; exact hc
  | j + 3 => simp at h
theorem Rp.t4 (e : H p = some (.tup [x,y,z,w])) (ha : Rp H n x a) (hb : Rp H n y b) (hc : Rp H n z c) (hd : Rp H n w d) : Rp H (n + 1) (.ref p) (.tup [a,b,c,d]) := .tup e rfl fun j x d h k => by
  match j with
  | 0 => cases h; cases k; exact ha
  | 1 => cases h; cases k; exact hb
  | 2 => cases h; cases k; exact hc
  | 3 => cases h; cases k; exact hd
  | j + 4 => simp at h
mutual
theorem deq_self : ∀ d : D,deq d d = true
  | .non => rfl
  | .bl b => by simp [deq]
  | .int i => by simp [deq]
  | .str x => by simp [deq]
  | .tup ds => by simp only [deq]; exact deqs_same ds
  | .lst ds => by simp only [deq]; exact deqs_same ds
theorem deqs_same : ∀ ds : List D,deqs ds ds = true
  | [] => by simp [deqs]
  | d :: ds => by simp only [deqs,Bool.and_eq_true]; exact ⟨deq_self d,deqs_same ds⟩
end
end
end L2
namespace L2
open PySem PySem.Spec PyProof.Rows
section
variable {X : Cx} {scope : Scope} {cl : List (Str × Addr)} {xs : List Str} {fv : List (Str × Nat)} {elt iter tg : Expr} {ifs : List Expr} {pos : Pos} {te : TE} {tc : TT} {g : TG}
end
end L2
namespace Dr
open PySem PySem.Spec L2 Mth Sp1 Sp2 Sp3 Sp7
def Pot (H : Hp) (p : Addr) (k : Int) : Prop := ∃ a b c : Int,H p = some (.lst [.int a,.int b,.int c]) ∧ 0 ≤ b ∧ b ≤ k ∧ 0 ≤ c ∧ c < 2147483647
def But (p : Addr) (H H' : Hp) : Prop := ∀ b o,b ≠ p → H b = some o → H' b = some o
theorem But.refl {p : Addr} {H : Hp} : But p H H := fun _ _ _ e => e
theorem But.trans {p : Addr} {H H1 H2 : Hp} (a : But p H H1) (b : But p H1 H2) : But p H H2 := fun c o n e => b c o n (a c o n e)
theorem But.of {p : Addr} {H H' : Hp} (s : Same H H') : But p H H' := fun c o _ e => s c o e
theorem But.same {p : Addr} {H0 H H' : Hp} (b : But p H H') (s : Same H0 H) (h : H0 p = none) : Same H0 H' := fun c o e => b c o (ne_of_none e h) (s c o e)
theorem Pot.mono {H : Hp} {p : Addr} {k k' : Int} (h : Pot H p k) (hk : k ≤ k') : Pot H p k' := by
  obtain ⟨a,b,c,e,h0,h1,h2,h3⟩ := h
  exact ⟨a,b,c,e,h0,by omega,h2,h3⟩
theorem Pot.same {H H' : Hp} {p : Addr} {k : Int} (h : Pot H p k) (s : Same H H') : Pot H' p k := by
  obtain ⟨a,b,c,e,h0⟩ := h
  exact ⟨a,b,c,s _ _ e,h0⟩
theorem But.t {p : Addr} {H H' : Hp} {k : Int} (b : But p H H') (h : Pot H p k) : SameT H H' := fun c xs e => by
  obtain ⟨x,y,z,ep,_⟩ := h
  exact b c _ (ne_of e ep (by intro z; cases z)) e
theorem Pot.ne {H : Hp} {p l : Addr} {k : Int} (h : Pot H p k) (hl : H l = none) : l ≠ p := fun z => by
  obtain ⟨x,y,w,ep,_⟩ := h
  subst z
  rw [hl] at ep
  cases ep
def spBegun : Sp := fun vs H Q _ => ∃ c : Int,vs = [.int c] ∧ ∀ (p : Addr) (H' : Hp),Same H H' → H p = none → Pot H' p 0 → Q (.ref p) H'
def spTk : Sp := fun vs H Q _ => ∃ (p : Addr) (m k : Int),vs = [.ref p,.int m] ∧ Pot H p k ∧ k ≤ 1000000 ∧ (0 < m ∧ bits m ≤ 8000) ∧ ∀ (r : Int) (H' : Hp),0 ≤ r → r < m → But p H H' → Pot H' p (k + 1) → Q (.int r) H'
def spWd : Sp := fun vs H Q _ => ∃ (p : Addr) (m k : Int),vs = [.ref p,.int m] ∧ Pot H p k ∧ k ≤ 900000 ∧ (0 < m ∧ bits m ≤ 8000) ∧ ∀ (r : Int) (H' : Hp),0 ≤ r → r < m → But p H H' → Pot H' p (k + 4) → Q (.int r) H'
end Dr
namespace Dr
open PySem PySem.Spec L2 Mth Sp1 Sp2 Sp3 Sp7
theorem ixN_of {n : Nat} {i : Int} (h0 : 0 ≤ i) (h1 : i < (n : Int)) : ixN n i = some i.toNat := by
  unfold ixN
  rw [if_pos h0,if_pos h1]
theorem menuI {K : PySem.W.Frag} {H : Hp} {l : Addr} {xs : List V} {i : Int} {Q : VK} (C : Int → Prop) (e : H l = some (.lst xs)) (h0 : 0 ≤ i) (h1 : i < (xs.length : Int)) (hC : ∀ v ∈ xs,∃ m,v = .int m ∧ C m) (h : ∀ m,C m → Q (.int m) H) : rIxL K (.ref l) (.int i) H Q :=
  menu e h0 h1 fun v hv => by
    obtain ⟨m,rfl,hc⟩ := hC v hv
    exact h m hc
end Dr
namespace Dr
open PySem
end Dr
namespace L2
open PySem PySem.Spec PyProof.Rows
section
variable {X : Cx}
def rSlS : V → Option Int → Option Int → Hp → VK → Prop := fun x lo hi H Q => ∃ z,x = .str z ∧ (Txt.slice z lo hi).length ≤ sizeLine ∧ Q (.str (Txt.slice z lo hi)) H
theorem sl_strS : SlR X rSlS := by
  intro pins s σ H x v vl vu lo hi sl Q I rx hs pl pu h
  obtain ⟨z,rfl,hz,q⟩ := h
  obtain ⟨t,rfl⟩ := rx
  refine ⟨"str",_,slot_str_getitem.lookup,typeIs_str s z t,?_⟩
  obtain ⟨l,el,ml⟩ : ∃ l : Option (Int × Tok),partValue l = vl ∧ l.map (·.1) = lo := by
    cases pl with
    | none => exact ⟨none,rfl,rfl⟩
    | int i t => exact ⟨some (i,t),rfl,rfl⟩
  obtain ⟨u,eu,mu⟩ : ∃ l : Option (Int × Tok),partValue l = vu ∧ l.map (·.1) = hi := by
    cases pu with
    | none => exact ⟨none,rfl,rfl⟩
    | int i t => exact ⟨some (i,t),rfl,rfl⟩
  refine wpAny_getItem_str_slice (l := l) (u := u) (st := none) (by rw [← el,← eu] at hs; exact hs) rfl ?_
  subst ml mu
  unfold Txt.slice at q hz
  unfold sliceMade
  have e : slicePicked z l u none = Builtin.Str.strSliceIndices (l.map (·.1)) (u.map (·.1)) 1 z.length := rfl
  rw [e]
  by_cases c : (Builtin.Str.strSliceIndices (l.map (·.1)) (u.map (·.1)) 1 z.length).length == z.length
  · rw [if_pos (show (((none : Option (Int × Tok)).map (·.1)).getD 1 == 1 && _) = true by rw [c]; rfl)]
    rw [if_pos (show ((1 : Int) == 1 && _) = true by rw [c]; rfl)] at q
    exact ⟨.str z,H,I,⟨t,rfl⟩,q⟩
  · have c : ((Builtin.Str.strSliceIndices (l.map (·.1)) (u.map (·.1)) 1 z.length).length == z.length) = false := by simpa using c
    rw [if_neg (show ¬ (((none : Option (Int × Tok)).map (·.1)).getD 1 == 1 && _) = true by rw [c]; simp)]
    rw [if_neg (show ¬ ((1 : Int) == 1 && _) = true by rw [c]; simp)] at q hz
    exact ⟨hz,.str _,H,I.tok _,⟨_,rfl⟩,q⟩
theorem strs_are : ∀ {ys : List Str} {us : List Value},Vals (ys.map V.str) us → StrsAre us ys
  | [],_,r => by
    cases r
    exact .nil
  | y :: r,_,h => by
    cases h with
    | cons a b =>
      obtain ⟨t,rfl⟩ := a
      exact .cons y t (strs_are b)
def rJoin (K : PySem.W.Frag) : V → List V → Hp → VK → Prop := fun x xs H Q => ∃ z l ys,x = .str z ∧ xs = [.ref l] ∧ SqL K H l (ys.map V.str) ∧ ((ys.map fun x => x.length).sum + ys.length * z.length ≤ 16777216) ∧ Q (.str (Txt.join z ys)) H
theorem mt_join : MtR X "str.join" (rJoin X.K) := by
  intro pins s σ H x xs v us Q I rx rs h
  obtain ⟨z,l,ys,rfl,rfl,hl,hz,q⟩ := h
  obtain ⟨t,rfl⟩ := rx
  obtain ⟨u,rfl,ru⟩ := vals1 rs
  cases ru
  obtain ⟨its,r,pl,_⟩ := I.list hl
  exact join_list pl.isList (strs_are r) hz fun t' k => ⟨.str _,H,I.kept (t' := k) fun b ob q => q,⟨_,rfl⟩,q⟩
end
end L2
namespace L2
open PySem PySem.Spec PyProof.Rows
section
variable {X : Cx}
end
end L2
namespace L2
open PySem PySem.Spec PyProof.Rows
section
variable {X : Cx}
end
end L2
namespace L2
open PySem PySem.Spec PyProof.Rows PySem.NumText
def Dig (K : PySem.W.Frag) : Prop := PySem.W.nsIn K cStatics "sys.int_max_str_digits" = some none
theorem dig_heap {K : PySem.W.Frag} {h : Heap} (X : K.In h) (l : h.NoLimit) (d : Dig K) : h.NoDigits := by
  obtain ⟨mc,G,_⟩ := l
  refine ⟨mc,G,?_⟩
  obtain ⟨o,es,ep,ho,hd,_,hf⟩ := G
  have e := d
  unfold Dig PySem.W.nsIn at e
  split at e
  · rename_i c d es' n' sl q
    have := X _ _ q
    rw [ho] at this
    cases this
    cases hd
    split at e
    · cases e
    · rename_i he
      rw [← hf]
      unfold nsFind findBy
      rw [← Array.find?_toList,he]
      rfl
  · cases e
section
variable {X : Cx} {pins : List (Addr × Obj)} {σ : St} {H : Hp} {s : Shared}
theorem Inv.nodig (I : Inv X pins σ H s) (d : Dig X.K) : s.heap.NoDigits := (dig_heap I.ok.mod.kin I.ok.mod.nolimit d).keeps I.bk
end
def num (n : Int) : Str := Str.ofString (toString n)
def Dg (n : Int) : Prop := n.natAbs < 10 ^ 4300
section
variable {prog : Program} {w : World} {A : Around} {E : Value → Shared → Prop} {s : Shared} {Q : Value → Shared → Prop} {x : PySem.Str} {t : Tok} {n : Int}
theorem wp_long {M : Model} {A : Around} {E : Value → Shared → Prop} {s : Shared} {Q : Value → Shared → Prop} {v : Value} {text : List Nat} {n : Int}
    (hs : ¬ (text.takeWhile (· != 0)).length ≤ 640) (hn : s.heap.NoDigits) (hr : (int_private% "readNumeral") 4300 10 (text.takeWhile (· != 0)) = (int_private% "Numeral.value") n)
    (ha : ((text.takeWhile (· != 0)).length == text.length) = true) (h : Q (.int n s.toks) { s with toks := s.toks + 1 }) :
    wpAny M A ((int_private% "intFromText") v text 10) Q E s := by
  show wpAny M A (do
    let limit ← if (text.takeWhile (· != 0)).length ≤ 640 then pure 0 else Builtin.intMaxStrDigits
    _) Q E s
  rw [if_neg hs]
  unfold Builtin.intMaxStrDigits
  obtain ⟨mc,hns,hnone⟩ := hn
  refine wpAny_bind (wpAny_bind (wpAny_nsGet hns ?_))
  rw [hnone]
  refine wpAny_pure ?_
  dsimp only
  rw [hr]
  dsimp only
  repeat (any_goals (first
    | assumption
    | (with_reducible refine wpAny_ite_true (decide_eq_true ha) ?_)
    | wp_step))
set_option maxHeartbeats 4000000 in
theorem meets_long {x : PySem.Str} {u : Tok} {n : Int} (hl : x.length ≤ 4300) (hn : PySem.intText? x = some n) (h6 : ¬ (numSeenOf x).length ≤ 640) : Meets (Builtin.«int.__new__» ⟨[.type "int",.str x u],[]⟩) (fun _ R s => s.heap.NoDigits ∧ R (.ok (.ret (.int n s.toks))) { s with toks := s.toks + 1 }) :=
  Meets.of_wp fun prog w A R s ⟨nd,h⟩ => by
    have f1 := F.conv_sub_int
    have f2 := F.madeHere_int
    have f3 := PySem.W.KIN.str_int
    have f4 := PySem.W.KIN.str_idx
    have f5 := PySem.W.KIN.str_trunc
    have f6 : typeOf (.str x u) = pure (.type "str") := rfl
    have hr : (int_private% "readNumeral") 4300 10 (numSeenOf x) = (int_private% "Numeral.value") n ∧ ((numSeenOf x).length == (numTextOf x).length) = true := by
      rcases read4300 x (Nat.le_trans hl (by decide)) with ⟨m,h1,h2,h3⟩ | ⟨h1,_⟩
      · rw [hn] at h1
        injection h1 with h1
        subst h1
        exact ⟨h3,h2⟩
      · rw [hn] at h1
        cases h1
    have hk := PySem.W.KIN.Hid.mk (And.intro h6 hr)
    have nk := PySem.W.KIN.Hid.mk nd
    have hq := PySem.W.KIN.Hid.mk h
    clear h6 hr hl hn nd h
    obtain ⟨hp,g,d,tk,os⟩ := s
    repeat (any_goals (first
      | assumption
      | ((with_reducible show wpAny _ _ ((int_private% "intFromText") _ _ _) _ _ _); refine wp_long hk.out.1 nk.out hk.out.2.1 hk.out.2.2 ?_)
      | wp_step))
    all_goals first | exact ⟨_,rfl,hq.out⟩ | skip
theorem int_text (hn : s.heap.NoDigits) (hc : ∀ c ∈ x.cps.toList,c = 45 ∨ (48 ≤ c ∧ c ≤ 57)) (hl : x.length ≤ 4300) (e : PySem.intText? x = some n) (h : ∀ t' k,Q (.int n t') { s with toks := k }) : wpAny (model prog w) A (call (.type "int") [.str x t]) Q E s := by
  by_cases h7 : x.length ≤ 640
  · exact PySem.W.KIN.call_text e h7 (h _ _)
  · refine PySem.call_int_1 (meets_long hl e ?_) ⟨hn,rfl,h _ _⟩
    rw [(numText_signs hc).2]
    have : x.cps.toList.length = x.length := Array.length_toList
    omega
end
section
variable {X : Cx}
def rStrI : List V → Hp → VK → Prop := fun xs H Q => ∃ n : Int,xs = [.int n] ∧ Dg n ∧ Q (.str (num n)) H
theorem call_strI {K : PySem.W.Frag} (hK : X.K = K) (d : Dig K) (hc : X.calm = true) : CallR X (.type "str") rStrI := by
  subst hK
  intro pins s σ H xs us Q I rs q
  obtain ⟨n,rfl,hd,q⟩ := q
  obtain ⟨u,rfl,ru⟩ := vals1 rs
  obtain ⟨t,rfl⟩ := ru
  exact str_of_int_or (I.ok.hd hc) (I.nodig d) (fun _ => ⟨.str _,H,I.tok _,⟨_,rfl⟩,q⟩) fun hge => absurd hd (Nat.not_lt.mpr hge)
def rIntS : List V → Hp → VK → Prop := fun xs H Q => ∃ (x : Str) (n : Int),xs = [.str x] ∧ (∀ c ∈ x.cps.toList,c = 45 ∨ (48 ≤ c ∧ c ≤ 57)) ∧ x.length ≤ 4300 ∧ PySem.intText? x = some n ∧ Q (.int n) H
theorem call_intS {K : PySem.W.Frag} (hK : X.K = K) (d : Dig K) : CallR X (.type "int") rIntS := by
  subst hK
  intro pins s σ H xs us Q I rs q
  obtain ⟨x,n,rfl,hc,hl,e,q⟩ := q
  obtain ⟨u,rfl,ru⟩ := vals1 rs
  obtain ⟨t,rfl⟩ := ru
  exact int_text (I.nodig d) hc hl e fun t' k => ⟨.int n,H,I.kept (t' := k) fun b ob z => z,⟨_,rfl⟩,q⟩
theorem mt_startswith : MtR X "str.startswith" (fun x xs H Q => ∃ z y,x = .str z ∧ xs = [.str y] ∧ Q (.bl (Txt.startswith z y)) H) := by
  intro pins s σ H x xs v us Q I rx rs h
  obtain ⟨z,y,rfl,rfl,q⟩ := h
  obtain ⟨t,rfl⟩ := rx
  obtain ⟨u,rfl,ru⟩ := vals1 rs
  obtain ⟨t',rfl⟩ := ru
  exact SC.startswith ⟨.bl _,H,I,rfl,q⟩
end
end L2
namespace L2
open PySem PySem.Spec PyProof.Rows PySem.NumText
section
variable {X : Cx}
def tFmt (te : TE) : TE := fun σ H Q => te σ H fun v H1 => (∃ n,v = .int n ∧ Dg n ∧ Q (.str (num n)) H1) ∨ ∃ z,v = .str z ∧ z.length ≤ sizeLine ∧ Q (.str z) H1
theorem pe_fmt {K : PySem.W.Frag} {e : Expr} {te : TE} {pos : Pos} (hK : X.K = K) (d : Dig K) (hc : X.calm = true) (h : PE X e te) : PE X (.FormattedValue e (-1) none pos) (tFmt te) := by
  subst hK
  intro pins s σ H Q I q
  refine FormattedValue_plain (thn (h pins s σ H _ I q) fun v s1 ⟨x,H1,I1,r1,q1⟩ => ?_)
  rcases q1 with ⟨n,rfl,hd,q1⟩ | ⟨z,rfl,hz,q1⟩
  · obtain ⟨t,rfl⟩ := r1
    exact formatField_int (I1.ok.hd hc) (I1.nodig d) (fun _ => ⟨.str _,H1,I1.kept (t' := s1.toks + 1 + 1) fun b ob z => z,⟨_,rfl⟩,q1⟩) fun hge => absurd hd (Nat.not_lt.mpr hge)
  · obtain ⟨t,rfl⟩ := r1
    exact formatField_str (fun t' tk => ⟨.str _,H1,I1.kept (t' := tk) fun b ob z => z,⟨_,rfl⟩,q1⟩) hz
def tJoin3 (t1 t2 t3 : TE) : TE := fun σ H Q => t1 σ H fun v1 H1 => ∃ y1,v1 = .str y1 ∧ y1.length ≤ sizeLine ∧ t2 σ H1 fun v2 H2 => ∃ y2,v2 = .str y2 ∧ y1.length + y2.length ≤ sizeLine ∧ t3 σ H2 fun v3 H3 => ∃ y3,v3 = .str y3 ∧ y1.length + y2.length + y3.length ≤ sizeLine ∧ Q (.str (y1 ++ y2 ++ y3)) H3
theorem empty_app (y : Str) : Str.empty ++ y = y := by
  show (⟨#[] ++ y.cps⟩ : Str) = y
  rw [Array.empty_append]
theorem pe_join3 {e1 e2 e3 : Expr} {t1 t2 t3 : TE} {pos : Pos} (h1 : PE X e1 t1) (h2 : PE X e2 t2) (h3 : PE X e3 t3) : PE X (.JoinedStr [e1,e2,e3] pos) (tJoin3 t1 t2 t3) := by
  intro pins s σ H Q I q
  refine JoinedStr_many (joinParts_cons (thn (h1 pins s σ H _ I q) fun v s1 ⟨x1,H1,I1,r1,y1,e1,z1,q1⟩ => ?_))
  subst e1
  obtain ⟨t,rfl⟩ := r1
  dsimp only
  rw [empty_app]
  refine ⟨z1,joinParts_cons (thn (h2 pins s1 σ H1 _ I1 q1) fun v s2 ⟨x2,H2,I2,r2,y2,e2,z2,q2⟩ => ?_)⟩
  subst e2
  obtain ⟨t,rfl⟩ := r2
  refine ⟨by rw [Str.length_append]; exact z2,?_⟩
  show wpAny _ _ (joinParts (y1 ++ y2) [eval _ X.env]) _ _ _
  refine joinParts_cons (thn (h3 pins s2 σ H2 _ I2 q2) fun v s3 ⟨x3,H3,I3,r3,y3,e3,z3,q3⟩ => ?_)
  subst e3
  obtain ⟨t,rfl⟩ := r3
  refine ⟨by rw [Str.length_append,Str.length_append]; exact z3,joinParts_nil ⟨.str _,H3,I3.tok _,⟨_,rfl⟩,q3⟩ (by rw [Str.length_append,Str.length_append]; exact z3)⟩
theorem op_inS : OpR X (compareOp .In) (fun x y H Q => ∃ a b,x = .str a ∧ y = .str b ∧ Q (.bl (Txt.contains b a)) H) := by
  intro pins s σ H x y v u Q I rx ry h
  obtain ⟨a,b,rfl,rfl,q⟩ := h
  obtain ⟨t,rfl⟩ := rx
  obtain ⟨t',rfl⟩ := ry
  exact SB.contains ⟨.bl _,H,I,rfl,q⟩
theorem strs_vals : ∀ {l : List (Str × Tok)},Vals ((l.map (·.1)).map V.str) (strValues l)
  | [] => .nil
  | (x,t) :: l => .cons ⟨t,rfl⟩ (strs_vals (l := l))
theorem mt_split : MtR X "str.split" (fun x xs H Q => ∃ z y,x = .str z ∧ xs = [.str y] ∧ (y.length == 0) = false ∧ z.length ≤ 100000 ∧ ∀ p H2,Same H H2 → H2 p = some (.lst ((Txt.split z y).map V.str)) → H p = none → Q (.ref p) H2) := by
  intro pins s σ H x xs v us Q I rx rs h
  obtain ⟨z,y,rfl,rfl,hy,hz,q⟩ := h
  obtain ⟨t,rfl⟩ := rx
  obtain ⟨u,rfl,ru⟩ := vals1 rs
  obtain ⟨t',rfl⟩ := ru
  have hs : sizeLine = 16777216 := sizeLine_eq
  have hle := split_le z y
  have fin : ∀ (l : List (Str × Tok)) (k : Nat),l.map (·.1) = Txt.split z y → EP X pins σ Q (.ref s.heap.objs.size) { s with toks := k,heap := s.heap.push { cls := .type "list",data := .seq (strValues l).toArray } } := fun l k e => by
    have vs := strs_vals (l := l)
    rw [e] at vs
    exact ⟨.ref _,_,I.lnew (t' := k) vs (by rw [List.length_map]; omega),rfl,q _ _ (Same.new I.fresh) upd_same I.fresh⟩
  cases h1 : (decide (z.length < y.length) || decide (Builtin.Str.strKind z < Builtin.Str.strKind y))
  · cases hf : (Builtin.Str.occurrences z y 0 z.length (z.length + 1)).isEmpty
    · have es : Txt.split z y = Builtin.Str.partsBetween z (Builtin.Str.occurrences z y 0 z.length (z.length + 1)) y.length := (if_neg (ne_true_of_eq_false h1)).trans (if_neg (ne_true_of_eq_false hf))
      refine call_meets F.slot_str_split (typeIs_str _ _ _) F.entry_str_split (F.args_str_split_2 _ _) (meets_str_split_sep z y t t' h1 hy hf (by omega) (by rw [← es]; omega)) ?_
      show wants _ _ _ { s with toks := _,heap := s.heap.push { cls := .type "list",data := .seq (strsFrom s.toks (Builtin.Str.partsBetween z (Builtin.Str.occurrences z y 0 z.length (z.length + 1)) y.length)).toArray } }
      rw [strsFrom_eq]
      exact fin _ _ ((numbered_texts _ _).trans es.symm)
    · exact call_meets F.slot_str_split (typeIs_str _ _ _) F.entry_str_split (F.args_str_split_2 _ _) (meets_str_split_not_found z y t t' h1 hy hf) (fin [(z,t)] s.toks ((if_neg (ne_true_of_eq_false h1)).trans (if_pos hf)).symm)
  · exact call_meets F.slot_str_split (typeIs_str _ _ _) F.entry_str_split (F.args_str_split_2 _ _) (meets_str_split_cannot_occur z y t t' h1) (fin [(z,t)] s.toks (if_pos h1).symm)
end
def Its (x : Str) : It := ⟨fun i _ => i < x.cps.size,fun i H v H' => H' = H ∧ ∃ c,x.cps.toList[i]? = some c ∧ v = .str ⟨#[c]⟩,fun i _ => x.cps.size ≤ i⟩
theorem turn_str {P : Program} {w : World} {K : PySem.W.Frag} {tg : Expr} (x : Str) (t : Tok) (it : Addr) (ty : String) (hty : ty = "str_ascii_iterator" ∨ ty = "str_iterator") : Turn P w K tg (Its x) [it] it (fun i h => h.IsStrIter it ty x t i) where
  mem := by simp
  obj := fun i h st b hb => by
    have e : b = it := by simpa using hb
    subst e
    obtain ⟨o,e,c,d⟩ := st
    exact ⟨o,e,fun v z => by rw [d] at z; cases z⟩
  keep := fun i h h' st k => by
    obtain ⟨o,e,c,d⟩ := st
    exact ⟨o,k it (by simp) o e,c,d⟩
  item := by
    intro X hP hw hK hc i pins s σ H E I hf st hg
    subst hP hw hK
    obtain ⟨f0,f1,f2,f3,f4,f5⟩ := hf it (by simp)
    have hi : i < x.cps.size := hg
    have hx : x.cps[i]? = some x.cps[i] := by simp [hi]
    have hx2 : x.cps.toList[i]? = some x.cps[i] := by simp [hi]
    have go : ∀ h' tk,h'.IsStrIter it ty x t (i + 1) → Heap.SameBut it s.heap h' → ∃ u,some (Value.str ⟨#[x.cps[i]]⟩ s.toks) = some u ∧ wpAny (model X.prog X.w) X.A (letOwnedTupleGo tg (.ref it) u) (fun _ s2 => ∃ v H',Inv X pins σ H' s2 ∧ RelV v u ∧ (Its x).yld i H v H' ∧ s2.heap.IsStrIter it ty x t (i + 1) ∧ ∀ b ∈ [it],H' b = none) E { s with heap := h',toks := tk } := fun h' tk st' sb => by
      have I1 : Inv X pins σ H { s with heap := h',toks := tk } := I.turned (t' := tk) (fun b o hb e => (sb.2 b hb).trans e) f0 f1 f3 f4 f5
      obtain ⟨o,e,c,d⟩ := id st'
      exact ⟨_,rfl,go_of (s := { s with heap := h',toks := tk }) e c d (by rcases hty with rfl | rfl <;> decide) ⟨.str ⟨#[x.cps[i]]⟩,H,I1,⟨_,rfl⟩,⟨rfl,_,hx2,rfl⟩,st',fun b hb => (hf b hb).1⟩⟩
    rcases hty with rfl | rfl
    · exact wpAny_pyNext_ascii_item st hx fun h' st' sb => go h' _ st' sb
    · exact wpAny_pyNext_wide_item st hx fun h' st' sb => go h' _ st' sb
  done := by
    intro X hP hw hK hc i pins s σ H E I hf st hg
    subst hP hw hK
    obtain ⟨f0,f1,f2,f3,f4,f5⟩ := hf it (by simp)
    have hi : x.cps.size ≤ i := hg
    have hx : x.cps[i]? = none := by simp [hi]
    rcases hty with rfl | rfl
    · exact wpAny_pyNext_ascii_end (I.ok.hd hc) st hx fun h' eb => ⟨rfl,I.turned (t' := s.toks) (fun b o hb e => eb b o hb e) f0 f1 f3 f4 f5⟩
    · exact wpAny_pyNext_wide_end (I.ok.hd hc) st hx fun h' eb => ⟨rfl,I.turned (t' := s.toks) (fun b o hb e => eb b o hb e) f0 f1 f3 f4 f5⟩
  self := fun _ _ _ _ _ st h => by
    rcases hty with rfl | rfl
    · exact wpAny_pyIter_striter_ascii st h
    · exact wpAny_pyIter_striter_wide st h
section
variable {X : Cx} {tg : Expr}
def iStr (tl : TE) : TI := fun σ H R => tl σ H fun v H1 => ∃ x,v = .str x ∧ R (Its x) H1
theorem pi_str {l : Expr} {tl : TE} (hl : PE X l tl) : PI X tg l (iStr tl) := by
  intro pins s σ H R I h
  refine thn (hl pins s σ H _ I h) fun v s1 ⟨y,H1,I1,r1,q1⟩ => ?_
  obtain ⟨x,e,q⟩ := q1
  subst e
  obtain ⟨t,rfl⟩ := r1
  refine wpAny_pyIter_strU ?_
  refine ⟨s1.heap.objs.size,[s1.heap.objs.size],_,_,H1,rfl,I1.kept (t' := s1.toks) fun b o e => Heap.get?_push_of_some _ e,turn_str x t _ (strIterType x) (by unfold strIterType; split <;> simp),⟨_,Heap.get?_push_size _ rfl,rfl,rfl⟩,fun b hb => ?_,q⟩
  have e : b = s1.heap.objs.size := by simpa using hb
  subst e
  exact I1.fpOk (Nat.le_refl _) (I1.hok.fresh (Nat.le_refl _))
end
theorem comp_sR {x : Str} {fv : List (Str × Nat)} {te : TE} {σ : St} {H1 : Hp} {Q : VK} (hlen : x.cps.size < 1000000) (R : Nat → V → Hp → Prop) (hR : ∀ i v H H',SameT H H' → R i v H → R i v H')
    (hs : ∀ i c H2 (Kc : VK),x.cps.toList[i]? = some c → Same H1 H2 → (∀ y H4,Same H2 H4 → R i y H4 → Kc y H4) → te (some (.str ⟨#[c]⟩) :: fvs fv σ) H2 Kc)
    (hd : ∀ l ys H',H1 l = none → Same H1 H' → H' l = some (.lst ys) → ys.length = x.cps.size → (∀ i y,ys[i]? = some y → R i y H') → Q (.ref l) H') :
    CompAt (Its x) fv te σ H1 Q := by
  intro l hl
  have hz : sizeLine = 16777216 := sizeLine_eq
  refine ⟨fun i m acc H2 => m = x.cps.size - i ∧ i ≤ x.cps.size ∧ acc.length = i ∧ Same H1 H2 ∧ H2 l = some (.lst acc) ∧ ∀ j y,acc[j]? = some y → R j y H2,⟨x.cps.size,by simp,Nat.zero_le _,rfl,Same.new hl,upd_same,fun j y h => by simp at h⟩,?_⟩
  rintro i m acc H2 ⟨rfl,hi,e1,sm,e3,hr⟩
  refine ⟨e3,by omega,?_⟩
  by_cases hlt : i < x.cps.size
  · refine .inr ⟨hlt,fun v H3 y => ?_⟩
    obtain ⟨rfl,c,hc,rfl⟩ := y
    refine hs i c _ _ hc sm fun y H4 s4 ry => ⟨s4 _ _ e3,x.cps.size - (i + 1),by omega,rfl,hlt,by simp [e1],(sm.trans s4).upd hl,upd_same,fun j z hz => ?_⟩
    have t4 := SameT.upd (ys := acc ++ [y]) (s4 _ _ e3)
    rcases Nat.lt_trichotomy j acc.length with h | h | h
    · rw [List.getElem?_append_left h] at hz
      exact hR _ _ _ _ (s4.t.trans t4) (hr j z hz)
    · subst h
      rw [List.getElem?_append_right (Nat.le_refl _),Nat.sub_self] at hz
      cases hz
      rw [e1]
      exact hR _ _ _ _ t4 ry
    · rw [List.getElem?_eq_none (by simp; omega)] at hz
      cases hz
  · have e : i = x.cps.size := by omega
    subst e
    exact .inl ⟨Nat.le_refl _,hd l acc H2 hl sm e3 e1 hr⟩
end L2
namespace L2
open PySem PySem.NumText
def digs (m : Nat) : List Nat := (Nat.toDigits 10 m).map Char.toNat
theorem digs_all (m : Nat) : AllDigits (digs m) := by
  intro c hc
  obtain ⟨ch,hch,e⟩ := List.mem_map.mp hc
  have r := PyProof.Rows.digit_range (Nat.isDigit_of_mem_toDigits (by decide) (by decide) hch)
  rw [← e]
  exact r
theorem digs_ne (m : Nat) : digs m ≠ [] := fun e => by
  have h := Nat.length_toDigits_pos (b := 10) (n := m)
  rw [List.map_eq_nil_iff.mp e] at h
  exact absurd h (by decide)
theorem digs_val (m : Nat) : digitsVal (digs m) = m := PySem.W.KIN.val_back m
theorem digs_len {m k : Nat} (hk : 0 < k) : (digs m).length ≤ k ↔ m < 10 ^ k := by
  unfold digs
  rw [List.length_map]
  exact Nat.length_toDigits_le_iff (by decide) hk
theorem digs_inj {a b : Nat} (h : digs a = digs b) : a = b := by rw [← digs_val a,← digs_val b,h]
theorem char_back : ∀ c : Nat,c < 58 → (Char.ofNat c).toNat = c := by decide
theorem digs_of {cs : List Nat} (h : AllDigits cs) (hne : cs ≠ []) (h0 : cs.length = 1 ∨ ∀ r,cs ≠ 48 :: r) : digs (digitsVal cs) = cs := by
  obtain ⟨c,r,rfl⟩ : ∃ c r,cs = c :: r := by
    cases cs with
    | nil => exact absurd rfl hne
    | cons c r => exact ⟨c,r,rfl⟩
  have e := toDigits_digitsVal r.length (c :: r) rfl h (by
    rcases h0 with z | z
    · left
      simp at z
      rw [z]
      rfl
    · right
      refine ⟨c,r,rfl,?_⟩
      have := h.head
      have : c ≠ 48 := fun e => z r (by rw [e])
      omega)
  unfold digs
  rw [e,List.map_map]
  exact (List.map_congr_left fun d hd => char_back d (by have := h d hd; omega)).trans (List.map_id _)
theorem digitsVal_lt : ∀ (cs : List Nat) (a : Nat),AllDigits cs → cs.foldl (fun acc c => acc * 10 + (c - 48)) a < (a + 1) * 10 ^ cs.length
  | [],a,_ => by simp
  | c :: cs,a,h => by
    have ih := digitsVal_lt cs (a * 10 + (c - 48)) h.tail
    have hc := h.head
    rw [List.foldl_cons,List.length_cons,Nat.pow_succ]
    refine Nat.lt_of_lt_of_le ih ?_
    have : a * 10 + (c - 48) + 1 ≤ (a + 1) * 10 := by omega
    calc (a * 10 + (c - 48) + 1) * 10 ^ cs.length ≤ ((a + 1) * 10) * 10 ^ cs.length := Nat.mul_le_mul_right _ this
      _ = (a + 1) * (10 ^ cs.length * 10) := by rw [Nat.mul_assoc,Nat.mul_comm 10]
theorem val_lt {cs : List Nat} (h : AllDigits cs) : digitsVal cs < 10 ^ cs.length := by
  have := digitsVal_lt cs 0 h
  simpa [digitsVal] using this
theorem num_nat (m : Nat) : (num (m : Int)).cps.toList = digs m := PySem.W.KIN.signs_num m
theorem num_neg (m : Nat) : (num (-((m + 1 : Nat) : Int))).cps.toList = 45 :: digs (m + 1) := by
  unfold num
  rw [PyProof.Rows.signs_ofString]
  show (Int.repr (Int.negSucc m)).toList.map Char.toNat = _
  have e : Int.repr (Int.negSucc m) = "-" ++ Nat.repr (m + 1) := rfl
  rw [e,String.toList_append,List.map_append,Nat.toList_repr]
  rfl
def figL : List Nat → List Nat
  | 45 :: r => r
  | l => l
theorem figL_minus (r : List Nat) : figL (45 :: r) = r := rfl
theorem figL_of {l : List Nat} (h : ∀ r,l ≠ 45 :: r) : figL l = l := by
  unfold figL
  split
  · rename_i r
    exact absurd rfl (h r)
  · rfl
theorem digits_nominus {l : List Nat} (h : AllDigits l) : ∀ r,l ≠ 45 :: r := fun r e => by
  subst e
  have := h.head
  omega
theorem num_fig (n : Int) : figL (num n).cps.toList = digs n.natAbs := by
  cases n with
  | ofNat m =>
    rw [show Int.ofNat m = (m : Int) from rfl,num_nat]
    exact figL_of (digits_nominus (digs_all m))
  | negSucc m =>
    rw [show Int.negSucc m = -((m + 1 : Nat) : Int) from rfl,num_neg]
    rfl
theorem num_cases (n : Int) : (num n).cps.toList = digs n.natAbs ∧ 0 ≤ n ∨ (num n).cps.toList = 45 :: digs n.natAbs ∧ n < 0 := by
  cases n with
  | ofNat m => exact .inl ⟨num_nat m,Int.natCast_nonneg m⟩
  | negSucc m =>
    refine .inr ⟨?_,by omega⟩
    rw [show Int.negSucc m = -((m + 1 : Nat) : Int) from rfl,num_neg]
    rfl
theorem num_signs (n : Int) : ∀ c ∈ (num n).cps.toList,c = 45 ∨ (48 ≤ c ∧ c ≤ 57) := by
  rcases num_cases n with ⟨e,_⟩ | ⟨e,_⟩
  · rw [e]
    exact fun c hc => .inr (digs_all _ c hc)
  · rw [e]
    intro c hc
    rcases List.mem_cons.mp hc with rfl | hc
    · exact .inl rfl
    · exact .inr (digs_all _ c hc)
theorem len_toList (x : Str) : x.cps.toList.length = x.length := Array.length_toList
theorem num_len {n : Int} {k : Nat} (hk : 0 < k) (h : n.natAbs < 10 ^ k) : (num n).length ≤ k + 1 := by
  have := (digs_len hk).mpr h
  rw [← len_toList]
  rcases num_cases n with ⟨e,_⟩ | ⟨e,_⟩
  · rw [e]; omega
  · rw [e,List.length_cons]; omega
theorem int_num {n : Int} (h : (num n).length ≤ 4300) : intText? (num n) = some n := by
  rcases num_cases n with ⟨e,h0⟩ | ⟨e,h0⟩
  · have := intText_digits (x := num n) (by rw [e]; exact digs_all _) (by rw [e]; exact digs_ne _) h
    rw [this,e,digs_val]
    congr 1
    omega
  · have := intText_neg (x := num n) e (digs_all _) (digs_ne _) h
    rw [this,digs_val]
    congr 1
    omega
theorem num_inj {a b : Int} (h : num a = num b) : a = b := by
  have e := congrArg (fun x => x.cps.toList) h
  have f : digs a.natAbs = digs b.natAbs := by rw [← num_fig a,← num_fig b,h]
  have g := digs_inj f
  rcases num_cases a with ⟨e1,h1⟩ | ⟨e1,h1⟩ <;> rcases num_cases b with ⟨e2,h2⟩ | ⟨e2,h2⟩
  · omega
  · exact absurd (show (num a).cps.toList = 45 :: digs b.natAbs from e.trans e2) (by rw [e1]; exact digits_nominus (digs_all _) _)
  · exact absurd (show (num b).cps.toList = 45 :: digs a.natAbs from e.symm.trans e1) (by rw [e2]; exact digits_nominus (digs_all _) _)
  · omega
theorem whole_read {x : Str} {k : Nat} (h : AllDigits (figL x.cps.toList)) (hne : figL x.cps.toList ≠ []) (hl : (figL x.cps.toList).length ≤ k) (hk : k ≤ 4000) :
    ∃ v : Int,(∀ c ∈ x.cps.toList,c = 45 ∨ (48 ≤ c ∧ c ≤ 57)) ∧ x.length ≤ 4300 ∧ intText? x = some v ∧ v.natAbs < 10 ^ k ∧ ∀ n,x = num n → n = v := by
  have ll := len_toList x
  have fin : ∀ v : Int,x.length ≤ 4300 → intText? x = some v → ∀ n,x = num n → n = v := fun v h1 h2 n e => by
    subst e
    rw [int_num h1] at h2
    exact Option.some.inj h2
  have lt : digitsVal (figL x.cps.toList) < 10 ^ k := Nat.lt_of_lt_of_le (val_lt h) (Nat.pow_le_pow_right (by decide) hl)
  by_cases hm : ∃ r,x.cps.toList = 45 :: r
  · obtain ⟨r,e⟩ := hm
    rw [e,figL_minus] at h hne hl lt
    have h43 : x.length ≤ 4300 := by rw [← ll,e,List.length_cons]; omega
    have it := intText_neg e h hne h43
    refine ⟨_,?_,h43,it,by omega,fin _ h43 it⟩
    rw [e]
    intro c hc
    rcases List.mem_cons.mp hc with rfl | hc
    · exact .inl rfl
    · exact .inr (h c hc)
  · have ef := figL_of (l := x.cps.toList) fun r e => hm ⟨r,e⟩
    rw [ef] at h hne hl lt
    have h43 : x.length ≤ 4300 := by omega
    have it := intText_digits h hne h43
    exact ⟨_,fun c hc => .inr (h c hc),h43,it,by omega,fin _ h43 it⟩
theorem Dg.of {n : Int} {k : Nat} (h : n.natAbs < 10 ^ k) (hk : k ≤ 4300) : Dg n := Nat.lt_of_lt_of_le h (Nat.pow_le_pow_right (by decide) hk)
theorem cut_one {c : Nat} : ∀ {a b r s : List Nat},c ∉ a → c ∉ b → a ++ c :: r = b ++ c :: s → a = b ∧ r = s
  | [],[],r,s,_,_,e => ⟨rfl,(List.cons.inj e).2⟩
  | [],y :: b,r,s,_,hb,e => absurd (show c ∈ y :: b by rw [(List.cons.inj e).1]; exact List.mem_cons_self) hb
  | x :: a,[],r,s,ha,_,e => absurd (show c ∈ x :: a by rw [← (List.cons.inj e).1]; exact List.mem_cons_self) ha
  | x :: a,y :: b,r,s,ha,hb,e => by
    obtain ⟨h1,h2⟩ := List.cons.inj e
    obtain ⟨h3,h4⟩ := cut_one (fun z => ha (List.mem_cons_of_mem _ z)) (fun z => hb (List.mem_cons_of_mem _ z)) h2
    exact ⟨by rw [h1,h3],h4⟩
theorem app_list (a y : Str) : (a ++ y).cps.toList = a.cps.toList ++ y.cps.toList := by rw [Str.cps_append,Array.toList_append]
theorem join_uniq {c : Nat} : ∀ {ps qs : List Str},ps ≠ [] → qs ≠ [] → (∀ p ∈ ps,c ∉ p.cps.toList) → (∀ q ∈ qs,c ∉ q.cps.toList) → Str.join ⟨#[c]⟩ ps = Str.join ⟨#[c]⟩ qs → ps = qs
  | [],_,h,_,_,_,_ => absurd rfl h
  | _,[],_,h,_,_,_ => absurd rfl h
  | [a],[b],_,_,_,_,e => by
    have e : a = b := e
    rw [e]
  | [a],b :: b2 :: r,_,_,h1,h2,e => by
    have e : a = b ++ ⟨#[c]⟩ ++ Str.join ⟨#[c]⟩ (b2 :: r) := e
    refine absurd ?_ (h1 a (List.mem_singleton.mpr rfl))
    rw [e,app_list,app_list]
    simp
  | a :: a2 :: r,[b],_,_,h1,h2,e => by
    have e : a ++ ⟨#[c]⟩ ++ Str.join ⟨#[c]⟩ (a2 :: r) = b := e
    refine absurd ?_ (h2 b (List.mem_singleton.mpr rfl))
    rw [← e,app_list,app_list]
    simp
  | a :: a2 :: r,b :: b2 :: s,_,_,h1,h2,e => by
    have e : (a ++ ⟨#[c]⟩ ++ Str.join ⟨#[c]⟩ (a2 :: r)).cps.toList = (b ++ ⟨#[c]⟩ ++ Str.join ⟨#[c]⟩ (b2 :: s)).cps.toList := congrArg (fun x => x.cps.toList) e
    simp only [app_list] at e
    rw [List.append_assoc,List.append_assoc] at e
    obtain ⟨e1,e2⟩ := cut_one (c := c) (h1 a List.mem_cons_self) (h2 b List.mem_cons_self) e
    have e3 := join_uniq (ps := a2 :: r) (qs := b2 :: s) (by simp) (by simp) (fun p hp => h1 p (List.mem_cons_of_mem _ hp)) (fun p hp => h2 p (List.mem_cons_of_mem _ hp)) (PyProof.Rows.ext_toList e2)
    rw [PyProof.Rows.ext_toList e1,e3]
theorem split_of {c : Nat} {qs : List Str} (h : qs ≠ []) (h2 : ∀ q ∈ qs,c ∉ q.cps.toList) : Txt.split (Str.join ⟨#[c]⟩ qs) ⟨#[c]⟩ = qs :=
  join_uniq (fun e => by have := PyProof.Rows.split_pos (Str.join ⟨#[c]⟩ qs) ⟨#[c]⟩; rw [e] at this; exact absurd this (by decide)) h (StrLaws.split_free _ c) h2 (StrLaws.join_split _ _)
end L2
namespace L2
open PySem PySem.Spec PyProof.Rows
section
variable {M : Model} {A : Around} {E : Value → Shared → Prop} {s : Shared}
theorem leaves_any {base : Heap} {env : Env} {outer : List Env} {L e : Addr} {cls a0 fl : Value} {Q : Unit → Shared → Prop}
    (hfr : A.frames = some (env :: outer)) (hf : env.frame = some L) (f1 : base.StaysIn s.heap) (f2 : base.get? e = none) (f3 : s.heap.FunFrames base (env :: outer)) (f4 : s.heap.TracedAtW base e cls a0 fl)
    (hQ : ∀ h',Heap.FlyingW base outer e cls a0 h' → s.heap.UpToSlots h' → Q () { s with heap := h' }) : wpAny M A (leaving env (.ref e)) Q E s := by
  by_cases c : (fl == rawInt L) = true
  · obtain ⟨oe,vs,T,oT,ts,he,hc0,hd,h1,hnT,hTe,hT,hdT,h3⟩ := id f4
    unfold leaving noteFrame
    simp only [hf]
    refine wpAny_bind (wpAny_bind (wpAny_field he hd h1 ?_))
    rw [if_pos (show (Value.ref T != Value.none) = true from by simp)]
    refine wpAny_bind (wpAny_field hT hdT h3 ?_)
    rw [if_pos c]
    refine wpAny_pure ?_
    exact wpAny_setFlight_noneW f1 f3 f4 fun h' k1 k2 k3 k4 => hQ h' ⟨k1,f2,k2.2.2,k3⟩ fun b o hb hn => ⟨o.slots,k4 b o hb hn⟩
  · obtain ⟨oe,vs,T,oT,ts,he,⟨hcls,h0⟩,hd,h1,hnT,hTe,hT,hdT,h3⟩ := id f4
    subst hcls
    unfold leaving noteFrame
    simp only [hf]
    refine wpAny_bind (wpAny_bind (wpAny_field he hd h1 ?_))
    rw [if_pos (show (Value.ref T != Value.none) = true from by simp)]
    refine wpAny_bind (wpAny_field hT hdT h3 ?_)
    rw [if_neg c]
    refine wpAny_bind (wpAny_setField hT hdT (Array.getElem?_eq_some_iff.mp h3).1 ?_)
    have other : ∀ b,b ≠ T → (s.heap.update T (Obj.mapFields (·.setIfInBounds 3 Value.none))).get? b = s.heap.get? b := fun b hb => Heap.get?_update_other _ _ (Ne.symm hb)
    have noRecord : ∀ b o,s.heap.get? b = some o → (∀ vs,o.data ≠ .fields vs) → b ≠ T := fun b o hb hnf q => by
      rw [q,hT] at hb; injection hb with hb; subst hb; exact hnf ts hdT
    refine wpAny_newEntryW hfr (f3.of_keeps fun b o hb hnf => ⟨o,(other b (noRecord b o hb hnf)).trans hb,rfl⟩) hf ((other e (Ne.symm hTe)).trans he)
      (fun b o hbo => (other b fun q => by rw [q,hnT] at hbo; cases hbo).trans (f1 b o hbo)) f2 hd (Array.getElem?_eq_some_iff.mp h1).1 h0
      fun h' ⟨x1,⟨_,_,x2⟩,x3,x4⟩ => hQ h' ⟨x1,f2,x2,x3⟩ fun b o hb hnf => x4 b o ((other b (noRecord b o hb hnf)).trans hb) hnf
theorem flight_any {base : Heap} {l : List Env} {e : Addr} {cls a0 fl : Value} {fr : Option Addr} {Q : Unit → Shared → Prop}
    (hkb : base.StaysIn s.heap) (hl : s.heap.FunFrames base l) (ht : s.heap.TracedAtW base e cls a0 fl)
    (h : ∀ h',base.StaysIn h' → h'.FunFrames base l → h'.TracedAtW base e cls a0 (fr.elim Value.none fun f => rawInt f) → (∀ b o,s.heap.get? b = some o → (∀ vs,o.data ≠ .fields vs) → h'.get? b = some o) → Q () { s with heap := h' }) :
    wpAny M A (setFlight (.ref e) fr) Q E s := by
  obtain ⟨oe,vs,T,oT,ts,he,hcls,hd,h1,hnT,hTe,hT,hdT,h3⟩ := ht
  have hsz3 : 3 < ts.size := (Array.getElem?_eq_some_iff.mp h3).1
  have other : ∀ b,b ≠ T → (s.heap.update T (Obj.mapFields (·.setIfInBounds 3 (fr.elim Value.none fun f => rawInt f)))).get? b = s.heap.get? b :=
    fun b hb => Heap.get?_update_other _ _ (Ne.symm hb)
  have noRecord : ∀ b o,s.heap.get? b = some o → (∀ vs,o.data ≠ .fields vs) → b ≠ T := fun b o hb hnf q => by
    rw [q,hT] at hb; injection hb with hb; subst hb; exact hnf ts hdT
  unfold setFlight
  refine wpAny_bind (wpAny_field he hd h1 ?_)
  rw [if_pos (show (Value.ref T != Value.none) = true from by simp)]
  refine wpAny_setField hT hdT hsz3 (h _ (fun b o hbo => (other b fun q => by rw [q,hnT] at hbo; cases hbo).trans (hkb b o hbo))
    (hl.of_keeps fun b o hb hnf => ⟨o,(other b (noRecord b o hb hnf)).trans hb,rfl⟩) ?_ fun b o hb hnf => (other b (noRecord b o hb hnf)).trans hb)
  exact ⟨oe,vs,T,_,_,(other e (Ne.symm hTe)).trans he,hcls,hd,h1,hnT,hTe,Heap.get?_update_self _ hT (Obj.isFreed_of_fields (Obj.data_mapFields hdT _)),Obj.data_mapFields hdT _,by simp [hsz3]⟩
end
theorem Un.flyF {fs : List Addr} {H H' : Hp} {h h1 h2 B : Heap} (un : Un fs [] H H' h h1) (big : Big B fs H' h) (st1 : B.StaysIn h1) (st2 : B.StaysIn h2)
    (fr : ∀ b ∈ fs,H b = none ∧ ∀ o,h1.get? b = some o → ∃ sl,h2.get? b = some { o with slots := sl }) : Un fs [] H H' h h2 where
  keep := fun b o e n hb hx => by
    have e1 := un.keep b o e n hb hx
    obtain ⟨ob,eb⟩ := big.old b o e hb
    have e2 := st1 b ob eb
    rw [e1] at e2
    cases e2
    exact st2 b _ eb
  slot := fun b o e n hb hx => by
    obtain ⟨s1,e1⟩ := un.slot b o e n hb hx
    obtain ⟨s2,e2⟩ := (fr b hb).2 _ e1
    exact ⟨s2,e2⟩
  free := un.free
  there := fun b o e hx => by
    by_cases hb : b ∈ fs
    · obtain ⟨s1,e1⟩ := un.slot b o e (fr b hb).1 hb hx
      obtain ⟨s2,e2⟩ := (fr b hb).2 _ e1
      exact ⟨_,e2⟩
    · obtain ⟨ob,eb⟩ := big.old b o e hb
      exact ⟨_,st2 b ob eb⟩
  tups := un.tups
  frzs := un.frzs
  tbls := un.tbls
theorem frames_less {h h' base base' : Heap} : ∀ {l : List Env},h.FunFrames base l → (∀ b,base.get? b = none → base'.get? b = none) → (∀ b ∈ frs l,∀ o,h.get? b = some o → h'.get? b = some o) → h'.FunFrames base' l
  | [],_,_,_ => trivial
  | env :: r,⟨hk,⟨L,o,hf,hn,ho,hd⟩,hr⟩,h1,h2 => ⟨hk,⟨L,o,hf,h1 L hn,h2 L (List.mem_filterMap.mpr ⟨env,.head _,hf⟩) o ho,hd⟩,frames_less hr h1 fun b hb o e => h2 b (by
      obtain ⟨x,hx,hy⟩ := List.mem_filterMap.mp hb
      exact List.mem_filterMap.mpr ⟨x,.tail _ hx,hy⟩) o e⟩
theorem ns_slots {h h' : Heap} {C : Addr} {m : Str → Option Value} (n : h.Ns C m) (up : h.UpToSlots h') : h'.Ns C m := by
  obtain ⟨o,es,ep,ho,hd,hr⟩ := n
  obtain ⟨sl,e⟩ := up C o ho (fun vs z => by rw [hd] at z; cases z)
  exact ⟨_,es,ep,e,hd,hr⟩
end L2
namespace L2
open PySem PySem.Spec PyProof.Rows
section
variable {P : Program} {w : World} {K : PySem.W.Frag} {mg : Str → Option Value} {base : Heap} {N : List Str} {qual : Str} {scope : Scope} {f : Addr} {cdv : Value} {A : Around} {outer : List Env} {s₀ : Shared} {H₀ : Hp} {E : XK}
def CompErr (M : Model) (A : Around) (E : Value → Shared → Prop) (C : Addr) (ev : Value) (s' : Shared) : Prop :=
  ∃ m,s'.heap.Ns C m ∧ ∀ h',Heap.SameBut C s'.heap h' → ∀ cenv : Env,cenv.locals = C → wpAny M A (PySem.passOn "comprehension.variables-let-go" ev cenv : Sem Value) (fun _ _ => False) E { s' with heap := h' }
theorem hide_one {B : Heap} {C b : Addr} {o : Obj} (e : (PySem.W.hideAll B [C]).get? b = some o) : b ≠ C ∧ B.get? b = some o := by
  refine ⟨fun z => ?_,PySem.W.of_hideAll _ e⟩
  subst z
  rw [PySem.W.hideAll_none _ (List.mem_singleton.mpr rfl)] at e
  cases e
theorem hide_none {B : Heap} {C b : Addr} (e : B.get? b = none) : (PySem.W.hideAll B [C]).get? b = none := by
  cases q : (PySem.W.hideAll B [C]).get? b with
  | none => rfl
  | some o =>
    rw [(hide_one q).2] at e
    cases e
theorem pass_comp {E1 : XK} {pins : List (Addr × Obj)} {σ : St} {H : Hp} {s s' : Shared} {ev : Value} {C : Addr} {m : Str → Option Value} {cenv : Env} (I : Inv (cxOf (CXE P w) P w K mg base N qual scope f cdv A outer s₀ H₀ E) pins σ H s)
    (h : CXE P w (cxOf (CXE P w) P w K mg base N qual scope f cdv A outer s₀ H₀ E).stack H s E1 ev s') (hE : ∀ c o H',E1 c o H' → E c o H')
    (hcf : cenv.frame = (cxOf (CXE P w) P w K mg base N qual scope f cdv A outer s₀ H₀ E).env.frame) (hns : s.heap.Ns C m) (hCn : H C = none) (hCs : C ∉ frs (cxOf (CXE P w) P w K mg base N qual scope f cdv A outer s₀ H₀ E).stack) (hC0 : s₀.heap.objs.size ≤ C) :
    notedBy (model P w) (cxOf (CXE P w) P w K mg base N qual scope f cdv A outer s₀ H₀ E).A cenv (CompErr (model P w) (cxOf (CXE P w) P w K mg base N qual scope f cdv A outer s₀ H₀ E).A (cxOf (CXE P w) P w K mg base N qual scope f cdv A outer s₀ H₀ E).xe C) ev s' := by
  obtain ⟨ea,t,cls,H',B,rfl,os,bare,un,hok,fl,big,q⟩ := h
  have ns1 : s'.heap.Ns C m := by
    obtain ⟨o,es,ep,ho,hd,hr⟩ := hns
    exact ⟨o,es,ep,un.keep C o ho hCn hCs (by simp),hd,hr⟩
  have hC' : H' C = none := by
    obtain ⟨o,es,ep,ho,hd,hr⟩ := hns
    exact un.free C o ho hCn (by simp)
  unfold notedBy
  have en : noteFrame (.ref ea) cenv = noteFrame (.ref ea) (cxOf (CXE P w) P w K mg base N qual scope f cdv A outer s₀ H₀ E).env := by
    unfold noteFrame PySem.frameOf
    rw [hcf]
  rw [en]
  refine wpAny_looks_onW (L := s₀.heap.objs.size) I.ok.frames rfl fl fun h4 hheld up4 => ?_
  have ns4 : h4.Ns C m := ns_slots ns1 up4
  refine ⟨m,ns4,fun h5 sb cenv' _ => ?_⟩
  obtain ⟨k1,k2,k3,k4⟩ := hheld
  have ndC : ∀ b o,h4.get? b = some o → ∀ vs,o.data = .fields vs → b ≠ C := fun b o eb vs hd z => by
    subst z
    obtain ⟨o2,es,ep,ho2,hd2,_⟩ := ns4
    rw [eb] at ho2
    cases ho2
    rw [hd] at hd2
    cases hd2
  have st5 : (PySem.W.hideAll B [C]).StaysIn h5 := fun b o eb => (sb.2 b (hide_one eb).1).trans (k1 b o (hide_one eb).2)
  have ff5 : h5.FunFrames (PySem.W.hideAll B [C]) (cxOf (CXE P w) P w K mg base N qual scope f cdv A outer s₀ H₀ E).stack := frames_less k3 (fun b z => hide_none z) fun b hb o e => (sb.2 b (fun z => hCs (z ▸ hb))).trans e
  have tr5 : h5.TracedAtW (PySem.W.hideAll B [C]) ea cls (.ref t) (rawInt s₀.heap.objs.size) := by
    obtain ⟨oe,vs,T,oT,ts,he,hcls,hd,h1,hnT,hTe,hT,hdT,h3⟩ := k4
    exact ⟨oe,vs,T,oT,ts,(sb.2 _ (ndC _ _ he _ hd)).trans he,hcls,hd,h1,hide_none hnT,hTe,(sb.2 _ (ndC _ _ hT _ hdT)).trans hT,hdT,h3⟩
  unfold PySem.passOn
  obtain ⟨oe,vs,T,oT,ts,he,hcls,hd,h1,hnT,hTe,hT,hdT,h3⟩ := id tr5
  refine wpAny_bind (wpAny_field (s := { s' with heap := h5 }) he hd h1 ?_)
  rw [if_neg (show ¬ ((Value.ref T == Value.none) = true) by simp)]
  refine wpAny_bind (flight_any (s := { s' with heap := h5 }) st5 ff5 tr5 fun h6 st6 ff6 tr6 kp6 => ?_)
  refine wpAny_throw ?_
  refine leaves_any (s := { s' with heap := h6 }) (L := s₀.heap.objs.size) I.ok.frames rfl st6 (hide_none k2) ff6 tr6 fun h7 fl7 up7 => ?_
  have out : ∀ x o,s₀.heap.get? x = some o → x ∈ frs (cxOf (CXE P w) P w K mg base N qual scope f cdv A outer s₀ H₀ E).stack → x ∈ frs outer := fun x o ex hm => by
    rcases List.mem_cons.mp (I.stkSub x hm) with z | z
    · exact absurd z (Nat.ne_of_lt (Nat.lt_of_lt_of_le (Heap.lt_size ex) I.ok.above))
    · exact z
  have sub : ∀ x ∈ frs outer,x ∈ frs (cxOf (CXE P w) P w K mg base N qual scope f cdv A outer s₀ H₀ E).stack := fun x hx => by
    show x ∈ frs (_ :: outer)
    rw [frs_cons (L := s₀.heap.objs.size) rfl]
    exact List.mem_cons_of_mem _ hx
  have un1 : Un (frs outer) [] H₀ H' s₀.heap s'.heap := Un.shed I.base un sub out
  have keepB : ∀ b ob,b ≠ C → B.get? b = some ob → ∃ ob,(PySem.W.hideAll B [C]).get? b = some ob := fun b ob nb eb => ⟨ob,PySem.W.hideAll_get _ eb (by simpa using nb)⟩
  have big1 : Big (PySem.W.hideAll B [C]) (frs outer) H' s₀.heap := by
    refine ⟨fun b o eb => ?_,fun b o eb hb => ?_⟩
    · obtain ⟨ob,z⟩ := big.tr b o eb
      refine keepB b ob (fun e => ?_) z
      subst e
      rw [hC'] at eb
      cases eb
    · obtain ⟨ob,z⟩ := I.base.there b o eb (by intro z; cases z)
      obtain ⟨ob2,z2⟩ := big.old b ob z fun hm => hb (out b o eb hm)
      exact keepB b ob2 (Nat.ne_of_lt (Nat.lt_of_lt_of_le (Heap.lt_size eb) hC0)) z2
  have st1 : (PySem.W.hideAll B [C]).StaysIn s'.heap := fun b o eb => fl.1 b o (hide_one eb).2
  refine ⟨ea,t,cls,H',PySem.W.hideAll B [C],rfl,os.trans I.os,bare,Un.flyF un1 big1 st1 fl7.1 fun b hb => ⟨I.ok.frf b hb,fun o eo => ?_⟩,HOk.fly hok big1 st1 fl7.1,fl7,big1,hE _ _ _ q⟩
  have nf : ∀ vs,o.data ≠ .fields vs := by
    obtain ⟨_,o2,eo2,nf2⟩ := fl.2.2.1.mem (sub b hb)
    rw [eo] at eo2
    cases eo2
    exact nf2
  obtain ⟨s1,e1⟩ := up4 b o eo nf
  have e5 : h5.get? b = some { o with slots := s1 } := (sb.2 b (fun z => hCs (z ▸ sub b hb))).trans e1
  have e6 := kp6 b _ e5 nf
  obtain ⟨s2,e7⟩ := up7 b _ e6 nf
  exact ⟨s2,e7⟩
end
end L2
namespace L2
open PySem PySem.Spec PyProof.Rows
abbrev Cx.blkX (X : Cx) (Ex : XK) (N' : List Str) (scope : Scope) (cl : List (Str × Addr)) (fp : List Addr) (s₀ : Shared) (H₀ : Hp) : Cx :=
  (X.blk N' scope cl fp s₀ H₀).wish fun ev s' => ∃ (sc : Shared) (Hc : Hp) (τ : St) (pc : List (Addr × Obj)) (E1 : XK),Inv (X.blk N' scope cl fp s₀ H₀) pc τ Hc sc ∧ CXE X.prog X.w X.stack Hc sc E1 ev s' ∧ ∀ c o H',E1 c o H' → Ex c o H'
section
variable {X : Cx} {scope : Scope} {cl : List (Str × Addr)} {x : Str} {fv : List (Str × Nat)} {elt iter : Expr} {px pos : Pos} {te : TE}
theorem blk_runX {pins : List (Addr × Obj)} {σ : St} {H2 : Hp} {s2 : Shared} {it : Addr} {fp : List Addr} {tn : Nat → Heap → Prop} {J : It} {RR : Value → Addr → Result → Shared → Prop} {E : Value → Shared → Prop} {Qf : V → Hp → Prop} {Ex : XK}
    (hcalm : X.calm = true) (C : CompN X scope cl x fv) (I2 : Inv X pins σ H2 s2) (T : Turn X.prog X.w X.K (.Name x px) J fp it tn) (st : tn 0 s2.heap) (f2 : ∀ b ∈ fp,FpOk X pins H2 b)
    (rd : ∀ p,H2 p = none → ∃ W : Nat → Nat → List V → Hp → Prop,(∃ m,W 0 m [] (upd H2 p (.lst []))) ∧ ∀ i m acc H2,W i m acc H2 →
      H2 p = some (.lst acc) ∧ acc.length < sizeLine ∧ ((J.stop i H2 ∧ Qf (.ref p) H2) ∨ (J.go i H2 ∧ ∀ x H3,J.yld i H2 x H3 → te (some x :: fvs fv σ) H3 fun y H4 => H4 p = some (.lst acc) ∧ ∃ m',m' < m ∧ W (i + 1) m' (acc ++ [y]) (upd H4 p (.lst (acc ++ [y]))))))
    (he : ∀ (s₀ : Shared) (H₀ : Hp),PE (X.blkX Ex (x :: fv.map (·.1)) scope cl fp s₀ H₀) elt te)
    (hRR : ∀ (p C : Addr) (H' : Hp) (s' : Shared),(∃ m,s'.heap.Ns C m) → C ≠ X.env.locals → H' C = none → X.s₀.heap.objs.size ≤ C → (∀ y c,X.env.cells.lookup y = some c → c ≠ C) → (∀ q ∈ X.pn ++ pins,q.1 ≠ C) → Inv X pins σ H' s' → Qf (.ref p) H' → RR (.ref p) C (.ok .next) s')
    (hEE : ∀ (p C : Addr) (Hc : Hp) (sc s' : Shared) (ev : Value) (E1 : XK) (m : Str → Option Value) (cenv : Env),Inv X pins σ Hc sc → CXE X.prog X.w X.stack Hc sc E1 ev s' → (∀ c o H',E1 c o H' → Ex c o H') → cenv.frame = X.env.frame → sc.heap.Ns C m → Hc C = none → C ∉ frs X.stack → X.s₀.heap.objs.size ≤ C → notedBy (model X.prog X.w) X.A cenv (fun e s'' => RR (.ref p) C (.error e) s'') ev s') :
    wpAny (model X.prog X.w) X.A (newList []) (fun acc s₃ => wpAny (model X.prog X.w) X.A (newFunctionEnv scope X.env.globals cl [] X.env.qual none .none (some X.env)) (fun cenv s₄ =>
      codeAny (model X.prog X.w) X.A (.compStart (.ListComp elt [⟨.Name x px,iter,[],0⟩] scope pos) 0 (.ref it) acc { cenv with scope := relabel scope X.env }) (RR acc cenv.locals) s₄) E s₃) E s2 := by
  refine wpAny_newObj_type ?_
  have hfresh := I2.fresh
  have I3 : Inv X pins σ (upd H2 s2.heap.objs.size (.lst [])) { s2 with heap := s2.heap.push { cls := .type "list",data := .seq ([] : List Value).toArray } } :=
    I2.laid (t' := s2.toks) (fun b u q => Heap.get?_push_of_some _ q) (Nat.le_refl _) ⟨Nat.zero_le _,[],0,.nil,Heap.get?_push_size _ rfl⟩
  generalize hs3 : ({ s2 with heap := s2.heap.push { cls := .type "list",data := .seq ([] : List Value).toArray } } : Shared) = s3 at I3 ⊢
  have hp3 : s2.heap.objs.size < s3.heap.objs.size := by rw [← hs3]; exact Nat.lt_of_lt_of_le (Nat.lt_succ_self _) (Nat.le_of_eq (Heap.size_push _ _).symm)
  have k23 : ∀ b o,s2.heap.get? b = some o → s3.heap.get? b = some o := fun b o e => by rw [← hs3]; exact Heap.get?_push_of_some _ e
  have fpo : ∀ b ∈ fp,b < s2.heap.objs.size := fun b hb => by
    obtain ⟨o,e,_⟩ := T.obj 0 _ st b hb
    exact Heap.lt_size e
  have f3 : ∀ b ∈ fp,FpOk X pins (upd H2 s2.heap.objs.size (.lst [])) b := fun b hb => ⟨by rw [upd_ne (Nat.ne_of_lt (fpo b hb))]; exact (f2 b hb).1,(f2 b hb).2⟩
  refine wpAny_newFunctionEnv C.cell (by intro y hy; simp at hy) (fun h1 hns1 hsb1 => ?_) C.kind
  have kp : ∀ b o,s3.heap.get? b = some o → h1.get? b = some o := fun b o e => (hsb1.2 b (Nat.ne_of_lt (Heap.lt_size e))).trans (Heap.get?_push_of_some _ e)
  have I4 := blk_inv (s4 := { s3 with heap := h1,toks := s3.toks + ([] : List (Str × Value)).length }) C I3 f3 (fun b hb => Nat.lt_trans (fpo b hb) hp3) ⟨rfl,rfl⟩ hns1 kp
  have st4 : tn 0 h1 := T.keep 0 _ _ st fun b _ o e => kp b o (k23 b o e)
  obtain ⟨W,⟨m0,w0⟩,step⟩ := rd _ hfresh
  have loop : codeAny (model X.prog X.w) X.A (.compLoop (.ListComp elt [⟨.Name x px,iter,[],0⟩] scope pos) 0 (.ref it) (.ref s2.heap.objs.size) (compEnvC scope cl s3.heap.objs.size X.env)) (RR (.ref s2.heap.objs.size) s3.heap.objs.size)
      { s3 with heap := h1,toks := s3.toks + ([] : List (Str × Value)).length } := by
    refine codeAny_compLoop_list (fun n s => ∃ i acc σv H',Inv (X.blk (x :: fv.map (·.1)) scope cl fp s3 (upd H2 s2.heap.objs.size (.lst []))) [] (σv :: fvs fv σ) H' s ∧ tn i s.heap ∧ (∀ b ∈ fp,H' b = none) ∧ W i n acc H') ?_ m0 ⟨0,[],none,_,I4,st4,fun b hb => (f3 b hb).1,w0⟩
    rintro n s ⟨i,acc,σv,H',I',st',fr',w'⟩
    obtain ⟨hp,hlen,alt⟩ := step i n acc H' w'
    have fpk : ∀ {H5 : Hp},(∀ b ∈ fp,H5 b = none) → ∀ b ∈ fp,FpOk (X.blk (x :: fv.map (·.1)) scope cl fp s3 (upd H2 s2.heap.objs.size (.lst []))) [] H5 b := fun h5 b hb =>
      ⟨h5 b hb,(I'.ok.exf b hb).1,I'.ok.exfs b hb,.inl hb,fun y c e => (I'.ok.exf b hb).2 y c e,fun q hq => by simp at hq⟩
    rcases alt with ⟨stop,qf⟩ | ⟨go,turn⟩
    · refine wpAny_mono (T.done (X.blk (x :: fv.map (·.1)) scope cl fp s3 (upd H2 s2.heap.objs.size (.lst []))) rfl rfl rfl hcalm i [] s _ H' (fun _ _ => False) I' (fpk fr') st' stop) (fun r s5 ⟨hr,I5⟩ => ?_) fun _ _ z => False.elim z
      subst hr
      refine hRR _ _ H' s5 (let ⟨m,hn,_⟩ := I5.loc; ⟨m,hn⟩) (Nat.ne_of_gt I3.lt) I5.free I3.sz (fun y c e => ?_) (fun q hq => ?_) ?_ qf
      · obtain ⟨v,z⟩ := I3.cell y c e
        exact Nat.ne_of_lt z.lt
      · exact Nat.ne_of_lt (Heap.lt_size (I3.pin q hq).1)
      · exact I3.call' (s' := s5) (ch := fp) I5.os I5.base I5.hok I5.bare fun b hb => ⟨(f2 b hb).2.2.2.1,(f2 b hb).2.1,(f2 b hb).2.2.2.2.1,(f2 b hb).2.2.2.2.2⟩
    · refine wpAny_mono (T.item (X.blk (x :: fv.map (·.1)) scope cl fp s3 (upd H2 s2.heap.objs.size (.lst []))) rfl rfl rfl hcalm i [] s _ H' (fun _ _ => False) I' (fpk fr') st' go) (fun r s5 ⟨u,hr,h5⟩ => ?_) fun _ _ z => False.elim z
      subst hr
      have e5 : assign (.Name x px) (compEnvC scope cl s3.heap.objs.size X.env) u = (letOwnedTupleGo (.Name x px) (.ref it) u >>= fun _ => assign (.Name x px) (compEnvC scope cl s3.heap.objs.size X.env) u) := by
        rw [show letOwnedTupleGo (.Name x px) (.ref it) u = pure () from rfl]
        rfl
      show wpAny _ _ (assign (.Name x px) (compEnvC scope cl s3.heap.objs.size X.env) u) _ _ _
      rw [e5]
      refine wpAny_bind (wpAny_mono h5 (fun _ s6 ⟨y,H6,I6,r6,y6,st6,fr6⟩ => ?_) fun _ _ z => False.elim z)
      have I6' := I6.pinned (fpk fr6) (T.obj _ _ st6)
      have lx : (relabel scope X.env).names.lookup x = some .local := lookup_relabel_local C.own
      refine wpAny_mono (pg_name (X := X.blk (x :: fv.map (·.1)) scope cl fp s3 (upd H2 s2.heap.objs.size (.lst []))) (i := 0) C.nd rfl (.inl lx) (.inr lx) _ s6 _ H6 y u (fun σ7 H7 => σ7 = some y :: fvs fv σ ∧ H7 = H6) I6' r6 ⟨rfl,rfl⟩) (fun _ s7 ⟨σ7,H7,I7,e7,e7'⟩ => ?_) fun _ _ z => False.elim z
      subst e7 e7'
      refine wpAny_mono (he s3 _ _ s7 _ _ _ (I7.wish _) (turn y _ y6)) (fun v8 s8 ⟨y8,H8,I8',r8,q8,m',hm',w8⟩ => ?_) fun ev s8 z => ?_
      rotate_left
      · obtain ⟨sc,Hc,τ,pc,E1,Ic,cx,hE⟩ := z
        have J : Inv X pins σ Hc sc := I3.call' (s' := sc) (ch := fp) Ic.os Ic.base Ic.hok Ic.bare fun b hb => ⟨(f2 b hb).2.2.2.1,(f2 b hb).2.1,(f2 b hb).2.2.2.2.1,(f2 b hb).2.2.2.2.2⟩
        obtain ⟨mc,hmc,_⟩ := Ic.loc
        refine hEE _ _ Hc sc s8 ev E1 mc _ J cx hE rfl hmc Ic.free (fun hb => ?_) I3.sz
        obtain ⟨_,o,ho,_⟩ := I3.stack.mem hb
        exact absurd (Heap.lt_size ho) (Nat.lt_irrefl _)
      have I8 := I8'.unwish
      refine wpAny_mono (mt_append (X := X.blk (x :: fv.map (·.1)) scope cl fp s3 (upd H2 s2.heap.objs.size (.lst []))) _ s8 _ H8 (.ref s2.heap.objs.size) [y8] (.ref s2.heap.objs.size) [v8] (fun _ H9 => H9 = upd H8 s2.heap.objs.size (.lst (acc ++ [y8]))) I8 rfl (.cons r8 .nil) ⟨_,acc,y8,rfl,rfl,q8,hlen,rfl⟩) (fun _ s9 ⟨_,H9,I9,_,e9⟩ => ?_) fun _ _ z => False.elim z
      subst e9
      refine ⟨m',hm',i + 1,acc ++ [y8],some y,_,I9.unpinned,T.keep _ _ _ st6 fun b hb o e => (I9.pin (b,o) (List.mem_append_right _ (List.mem_append_right _ (mem_pinsAt hb e)))).1,fun b hb => ?_,w8⟩
      obtain ⟨o,e,d⟩ := T.obj _ _ st6 b hb
      exact (I9.pin (b,o) (List.mem_append_right _ (List.mem_append_right _ (mem_pinsAt hb e)))).2.1
  exact codeAny_compStart_list loop (T.self _ 0 _ _ _ st4 loop)
end
section
variable {P : Program} {w : World} {K : PySem.W.Frag} {mg : Str → Option Value} {base : Heap} {N : List Str} {qual : Str} {scope' : Scope} {f : Addr} {cdv : Value} {A : Around} {outer : List Env} {s₀ : Shared} {H₀ : Hp} {E : XK}
variable {scope : Scope} {cl : List (Str × Addr)} {x : Str} {fv : List (Str × Nat)} {elt iter : Expr} {px pos : Pos} {te : TE}
theorem pe_fxB {X : Cx} {Ex : XK} {N' : List Str} {fp : List Addr} {s₁ : Shared} {H₁ : Hp} {y : Str} {ps : List Str} {k : Nat} {ds : List V} {sp : Sp} {p pos : Pos} {e : Expr} {es : List Expr} {t : TA} (F : Fx X.prog X.w X.K X.mg X.base y ps k ds sp) (hr : Room k X.A) (hg : Gl (X.blkX Ex N' scope cl fp s₁ H₁) y) (ha : PA (X.blkX Ex N' scope cl fp s₁ H₁) (e :: es) t)
    (hdb : (y == ("__debug__" : Str)) = false := by decide) (he : starEach (e :: es) (X.blkX Ex N' scope cl fp s₁ H₁).env = (false,eval e (X.blkX Ex N' scope cl fp s₁ H₁).env) :: starEach es (X.blkX Ex N' scope cl fp s₁ H₁).env := by rfl) (hpl : (backTo pos (starEach es (X.blkX Ex N' scope cl fp s₁ H₁).env)).any (·.1) = false := by rfl) :
    PE (X.blkX Ex N' scope cl fp s₁ H₁) (.Call (.Name y p) (e :: es) [] pos) (tCall sp [] Ex t) := by
  obtain ⟨g,fd,its,hm,hk,hb,_,_,G⟩ := F.ex
  exact pe_call G hr hg hm hk hb .nil (fun pins σ H s e s' I h => ⟨s,H,σ,pins,Ex,I.unwish,h,fun _ _ _ z => z⟩) ha hdb he hpl
theorem ps_setCompX {wi : TI} {y : Str} {j : Nat} {py spos : Pos} (C : CompN (cxOf (CXE P w) P w K mg base N qual scope' f cdv A outer s₀ H₀ E) scope cl x fv) (hN : N.Nodup) (hj : N[j]? = some y) (hy : (cxOf (CXE P w) P w K mg base N qual scope' f cdv A outer s₀ H₀ E).env.scope.names.lookup y = some .local)
    (hi : PI (cxOf (CXE P w) P w K mg base N qual scope' f cdv A outer s₀ H₀ E) (.Name x px) iter wi) (he : ∀ (fp : List Addr) (s₁ : Shared) (H₁ : Hp),PE ((cxOf (CXE P w) P w K mg base N qual scope' f cdv A outer s₀ H₀ E).blkX E (x :: fv.map (·.1)) scope cl fp s₁ H₁) elt te)
    (hsw : swapsWith (.ListComp elt [⟨.Name x px,iter,[],0⟩] scope pos) (some (.Name y py)) spos.line (cxOf (CXE P w) P w K mg base N qual scope' f cdv A outer s₀ H₀ E).env = pure true := by rfl)
    (hs : ∀ v,foldedSetIterable iter (cxOf (CXE P w) P w K mg base N qual scope' f cdv A outer s₀ H₀ E).env v = pure v := by intro _; rfl) : PS (cxOf (CXE P w) P w K mg base N qual scope' f cdv A outer s₀ H₀ E) (.Assign [.Name y py] (.ListComp elt [⟨.Name x px,iter,[],0⟩] scope pos) spos) (tAsg (tCompA wi fv te) (gName j)) := by
  intro pins s σ H D I h
  rw [exec_Assign_Name_used _ _ _ _ hsw]
  refine wpAny_bind (wpAny_standAt (wpAny_bind ?_))
  show wpAny _ _ (do let _ ← comprehension (.ListComp elt [⟨.Name x px,iter,[],0⟩] scope pos) scope (cxOf (CXE P w) P w K mg base N qual scope' f cdv A outer s₀ H₀ E).env _ (newList []) false (eval iter (cxOf (CXE P w) P w K mg base N qual scope' f cdv A outer s₀ H₀ E).env) (some (assign (.Name y py) (cxOf (CXE P w) P w K mg base N qual scope' f cdv A outer s₀ H₀ E).env))) _ _ s
  refine wpAny_bind (wpAny_mono (wpAny_comprehension_free (use := some (assign (.Name y py) (cxOf (CXE P w) P w K mg base N qual scope' f cdv A outer s₀ H₀ E).env)) (Q := fun _ s' => SP (cxOf (CXE P w) P w K mg base N qual scope' f cdv A outer s₀ H₀ E) pins D .next s') rfl hs C.clos C.kind C.names
    (wpAny_mono (hi pins s σ H _ I h) (fun v s1 h1 => wpAny_mono h1 (fun itv s2 h2 => ?_) fun _ _ z => z) fun _ _ z => z)) (fun _ s' hq => wpAny_pure (wpAny_pure hq)) fun _ _ z => z)
  obtain ⟨it,fp,tn,J,H2,rfl,I2,T,st2,f2,rd⟩ := h2
  refine blk_runX (Ex := E) (Qf := fun v H' => gName j v σ H' D.nx) rfl C I2 T st2 f2 rd (he fp) (fun p D' H' s' ns nL nH n0 nC nP I8 q => ?_) fun p D' Hc sc s' ev E1 m cenv Ic cx hE hcf hns hCn hCs hC0 => pass_comp Ic cx hE hcf hns hCn hCs hC0
  obtain ⟨m,hn⟩ := ns
  show wpAny _ _ (assign (.Name y py) (cxOf (CXE P w) P w K mg base N qual scope' f cdv A outer s₀ H₀ E).env (.ref p)) _ _ _
  refine wpAny_assign_Name (store_ok2 I8 hN hj (.inl hy) (v := .ref p) rfl (fun s9 I9 ⟨a,sb,ha⟩ => ?_) (.inr hy))
  have aD : D' ≠ a := by
    rintro rfl
    rcases ha with z | z
    · exact nL z
    · exact nC y _ z rfl
  exact ⟨m,hn.sameBut sb aD,fun h'' sb2 => ⟨_,H',I9.turned (t' := s9.toks) (fun b o hb e => (sb2.2 b hb).trans e) nH nL (.inr n0) nC nP,q⟩⟩
theorem pe_compX {wi : TI} (C : CompN (cxOf (CXE P w) P w K mg base N qual scope' f cdv A outer s₀ H₀ E) scope cl x fv)
    (hi : PI (cxOf (CXE P w) P w K mg base N qual scope' f cdv A outer s₀ H₀ E) (.Name x px) iter wi) (he : ∀ (fp : List Addr) (s₁ : Shared) (H₁ : Hp),PE ((cxOf (CXE P w) P w K mg base N qual scope' f cdv A outer s₀ H₀ E).blkX E (x :: fv.map (·.1)) scope cl fp s₁ H₁) elt te)
    (hs : ∀ v,foldedSetIterable iter (cxOf (CXE P w) P w K mg base N qual scope' f cdv A outer s₀ H₀ E).env v = pure v := by intro _; rfl) : PE (cxOf (CXE P w) P w K mg base N qual scope' f cdv A outer s₀ H₀ E) (.ListComp elt [⟨.Name x px,iter,[],0⟩] scope pos) (tCompA wi fv te) := by
  intro pins s σ H Q I h
  rw [eval_ListComp]
  refine wpAny_comprehension_free (use := none) rfl hs C.clos C.kind C.names (wpAny_mono (hi pins s σ H _ I h) (fun v s1 h1 => wpAny_mono h1 (fun itv s2 h2 => ?_) fun _ _ z => z) fun _ _ z => z)
  obtain ⟨it,fp,tn,J,H2,rfl,I2,T,st2,f2,rd⟩ := h2
  refine blk_runX (Ex := E) (Qf := Q) rfl C I2 T st2 f2 rd (he fp) (fun p D H' s' ns nL nH n0 nC nP I8 q => ?_) fun p D' Hc sc s' ev E1 m cenv Ic cx hE hcf hns hCn hCs hC0 => pass_comp Ic cx hE hcf hns hCn hCs hC0
  obtain ⟨m,hn⟩ := ns
  exact ⟨m,hn,fun h'' sb => ⟨.ref p,H',I8.turned (t' := s'.toks) (fun b o hb e => (sb.2 b hb).trans e) nH nL (.inr n0) nC nP,rfl,q⟩⟩
end
end L2
namespace L2
open PySem PySem.Spec PyProof.Rows
theorem comp_RB {K : PySem.W.Frag} {a : Addr} {xs : List V} {fv : List (Str × Nat)} {te : TE} {σ : St} {H1 : Hp} {Q : VK} (hL : SqL K H1 a xs) (hlen : xs.length < 1000000) (R : Nat → V → Hp → Prop) (hR : ∀ i v H H',SameT H H' → R i v H → R i v H')
    (hs : ∀ i x H2 (Kc : VK),xs[i]? = some x → Same H1 H2 → (∀ y H4,Same H2 H4 → R i y H4 → Kc y H4) → te (some x :: fvs fv σ) H2 Kc)
    (hd : ∀ l ys H',H1 l = none → Same H1 H' → H' l = some (.lst ys) → ys.length = xs.length → (∀ i y,ys[i]? = some y → R i y H') → Q (.ref l) H') :
    CompAt (Itl K a) fv te σ H1 Q := by
  intro l hl
  have hz : sizeLine = 16777216 := sizeLine_eq
  refine comp_list (K := K) (a := a) (xs := xs) (l := l) (fv := fv) (Qp := fun H2 => Q (.ref l) H2) (fun i acc H2 => acc.length = i ∧ Same H1 H2 ∧ H2 l = some (.lst acc) ∧ ∀ j y,acc[j]? = some y → R j y H2)
    ⟨rfl,Same.new hl,upd_same,fun j y h => by simp at h⟩ ?_ ?_ ?_
  · rintro i acc H2 hi ⟨e1,sm,e3,_⟩
    exact ⟨sm.seq hL,e3,by omega⟩
  · rintro i x acc H2 Kc hx ⟨e1,sm,e3,hr⟩ kk
    refine hs i x H2 Kc hx sm fun y H4 s4 ry => kk y H4 (s4 _ _ e3) ⟨by simp [e1],(sm.trans s4).upd hl,upd_same,fun j z hz => ?_⟩
    have t4 := SameT.upd (ys := acc ++ [y]) (s4 _ _ e3)
    rcases Nat.lt_trichotomy j acc.length with h | h | h
    · rw [List.getElem?_append_left h] at hz
      exact hR _ _ _ _ (s4.t.trans t4) (hr j z hz)
    · subst h
      rw [List.getElem?_append_right (Nat.le_refl _),Nat.sub_self] at hz
      cases hz
      rw [e1]
      exact hR _ _ _ _ t4 ry
    · rw [List.getElem?_eq_none (by simp; omega)] at hz
      cases hz
  · rintro acc H2 ⟨e1,sm,e3,hr⟩
    exact hd l acc H2 hl sm e3 e1 hr
end L2
namespace L2
open PySem PySem.Spec PyProof.Rows PySem.NumText
section
variable {X : Cx}
theorem part_one (x : Str) (c : Nat) : (c ∉ x.cps.toList ∧ Txt.partition x ⟨#[c]⟩ = (x,Str.empty,Str.empty)) ∨
    ∃ a b : Str,Txt.partition x ⟨#[c]⟩ = (a,⟨#[c]⟩,b) ∧ x.cps.toList = a.cps.toList ++ c :: b.cps.toList ∧ c ∉ a.cps.toList := by
  have hs := StrLaws.partition_sum x ⟨#[c]⟩
  unfold Txt.partition at *
  rcases StrLaws.occ_head x ⟨#[c]⟩ 1 (Nat.le_refl 1) with ⟨h0,hn⟩ | ⟨i,r,h0,hi,hn⟩
  · rw [h0]
    refine .inl ⟨fun hm => ?_,rfl⟩
    obtain ⟨i,hi,e⟩ := List.mem_iff_getElem.mp hm
    exact hn i ((StrLaws.subAt_one x c i).mpr (by rw [List.getElem?_eq_getElem hi,e]))
  · rw [h0] at hs ⊢
    refine .inr ⟨_,_,rfl,?_,fun hm => ?_⟩
    · have e := congrArg (fun s => s.cps.toList) hs
      simp only [app_list] at e
      rw [← e,List.append_assoc]
      rfl
    · rw [strSub_mk] at hm
      simp only [List.toList_toArray,List.drop_zero,Nat.sub_zero] at hm
      obtain ⟨k,hk,e⟩ := List.mem_iff_getElem.mp hm
      rw [List.length_take] at hk
      rw [List.getElem_take] at e
      exact hn k (by omega) ((StrLaws.subAt_one x c k).mpr (by rw [List.getElem?_eq_getElem (by omega),e]))
theorem mt_partition : MtR X "str.partition" (fun x xs H Q => ∃ z y,x = .str z ∧ xs = [.str y] ∧ (y.length == 0) = false ∧ z.length ≤ 100000 ∧ ∀ p H2,Same H H2 → H2 p = some (.tup [.str (Txt.partition z y).1,.str (Txt.partition z y).2.1,.str (Txt.partition z y).2.2]) → H p = none → Q (.ref p) H2) := by
  intro pins s σ H x xs v us Q I rx rs h
  obtain ⟨z,y,rfl,rfl,hy,hz,q⟩ := h
  obtain ⟨t,rfl⟩ := rx
  obtain ⟨u,rfl,ru⟩ := vals1 rs
  obtain ⟨t',rfl⟩ := ru
  have hs : sizeLine = 16777216 := sizeLine_eq
  refine call_meets F.slot_str_partition (typeIs_str _ _ _) F.entry_str_partition (F.args_str_partition_2 _ _) (meets_str_partition z y t t' hy (by omega)) ?_
  have fin : ∀ (a b c : Str) (t1 t2 t3 k : Nat),(∀ p H2,Same H H2 → H2 p = some (.tup [.str a,.str b,.str c]) → H p = none → Q (.ref p) H2) → EP X pins σ Q (.ref s.heap.objs.size) { s with toks := k,heap := s.heap.push { cls := .type "tuple",data := .seq [.str a t1,.str b t2,.str c t3].toArray } } := fun a b c t1 t2 t3 k q => by
    have hf : H s.heap.objs.size = none := I.fresh
    refine ⟨.ref s.heap.objs.size,upd H s.heap.objs.size (.tup [.str a,.str b,.str c]),I.laid (t' := k) (fun b u e => Heap.get?_push_of_some _ e) (Nat.le_refl _) ?_,rfl,q _ _ (Same.new hf) upd_same hf⟩
    exact ⟨by rw [hs]; simp,_,.cons ⟨_,rfl⟩ (.cons ⟨_,rfl⟩ (.cons ⟨_,rfl⟩ .nil)),⟨_,Heap.get?_push_size _ rfl,rfl,_,rfl⟩⟩
  unfold Txt.partition at q
  show wants _ _ _ _
  revert q
  cases Builtin.Str.occurrences z y 0 z.length 1 with
  | nil =>
    intro q
    exact fin _ _ _ _ _ _ _ q
  | cons i r =>
    intro q
    exact fin _ _ _ _ _ _ _ q
def PlainN (H : Hp) (v : V) : Prop := v = .non ∨ (∃ n,v = .int n) ∨ ∃ p ys,v = .ref p ∧ H p = some (.tup ys)
def rInN (K : PySem.W.Frag) : R2 := fun x y H Q => ∃ p xs,x = .non ∧ y = .ref p ∧ SqL K H p xs ∧ (∀ v ∈ xs,PlainN H v) ∧ Q (.bl (decide (V.non ∈ xs))) H
theorem op_inN (hu : X.A.units + 10 < cLine) : OpR X (compareOp .In) (rInN X.K) := by
  intro pins s σ H x y v u Q I rx ry h
  obtain ⟨p,xs,rfl,rfl,hq,hp,q⟩ := h
  cases ry
  cases rx
  obtain ⟨its,r,pl,hz⟩ := I.list hq
  have ev : ∀ w ∈ its,∃ z ∈ xs,RelV z w := fun w hw => by
    obtain ⟨i,hi,e⟩ := List.mem_iff_getElem.mp hw
    have hl := r.length
    have hi2 : i < xs.length := by omega
    obtain ⟨u,hu,ru⟩ := r.get (i := i) (x := xs[i]) (List.getElem?_eq_getElem hi2)
    rw [List.getElem?_eq_getElem hi,e] at hu
    cases hu
    exact ⟨_,List.getElem_mem hi2,ru⟩
  have back : ∀ z ∈ xs,∃ w ∈ its,RelV z w := fun z hz => by
    obtain ⟨i,hi,e⟩ := List.mem_iff_getElem.mp hz
    obtain ⟨u,hu,ru⟩ := r.get (i := i) (x := z) (by rw [List.getElem?_eq_getElem hi,e])
    exact ⟨u,List.mem_of_getElem? hu,ru⟩
  refine SeqAt.in_listAt (fun w => w == Value.none) pl.isList (fun w hw => ?_) ⟨.bl _,H,I,rfl,?_⟩
  · obtain ⟨z,hz,rz⟩ := ev w (by simpa using hw)
    rcases hp z hz with rfl | ⟨n,rfl⟩ | ⟨a,ys,rfl,e⟩
    · cases rz
      exact SeqAt.EqAt.same _
    · obtain ⟨t,rfl⟩ := rz
      exact SeqAt.EqAt.int_none _ _
    · cases rz
      obtain ⟨its2,_,pl2,_⟩ := I.tuple (SqT.of e)
      exact SeqAt.EqAt.tuple_none pl2 (by show X.A.units + 1 < cLine; omega)
  · have e : (its.toArray.any fun w => w == Value.none) = decide (V.non ∈ xs) := by
      rw [show (its.toArray.any fun w => w == Value.none) = its.any fun w => w == Value.none by simp]
      rw [Bool.eq_iff_iff,List.any_eq_true,decide_eq_true_eq]
      constructor
      · rintro ⟨w,hw,e⟩
        have e := beq_iff_eq.mp e
        subst e
        obtain ⟨z,hz,rz⟩ := ev _ hw
        rcases hp z hz with rfl | ⟨n,rfl⟩ | ⟨a,ys,rfl,e⟩
        · exact hz
        · obtain ⟨t,rz⟩ := rz
          cases rz
        · cases rz
      · intro hm
        obtain ⟨w,hw,rw_⟩ := back _ hm
        cases rw_
        exact ⟨_,hw,by simp⟩
    rw [e]
    exact q
end
end L2
namespace Hd
open PySem PySem.W PySem.Spec L2
def live (o : Obj) : Bool := match o.data with
  | .freed => false
  | _ => true
def nums : Nat → List Obj → Frag
  | _,[] => []
  | n,a :: r => bif live a then (n,a) :: nums (n + 1) r else nums (n + 1) r
theorem nums_at : ∀ (l : List Obj) (n a : Nat) (o : Obj),(nums n l).lookup a = some o → n ≤ a ∧ l[a - n]? = some o ∧ live o = true
  | [],_,_,_,e => by cases e
  | x :: r,n,a,o,e => by
    have up : (nums (n + 1) r).lookup a = some o → n ≤ a ∧ (x :: r)[a - n]? = some o ∧ live o = true := fun e => by
      obtain ⟨h1,h2,h3⟩ := nums_at r (n + 1) a o e
      refine ⟨by omega,?_,h3⟩
      have : a - n = (a - (n + 1)) + 1 := by omega
      rw [this]
      exact h2
    unfold nums at e
    cases hl : live x with
    | false =>
      rw [hl] at e
      exact up e
    | true =>
      rw [hl,cond_true,List.lookup_cons] at e
      cases hb : a == n with
      | true =>
        rw [hb] at e
        have hb := beq_iff_eq.mp hb
        subst hb
        cases e
        exact ⟨Nat.le_refl _,by simp,hl⟩
      | false =>
        rw [hb] at e
        exact up e
def frag (h : Heap) : Frag := nums 0 h.objs.toList
theorem frag_in (h : Heap) : (frag h).In h := by
  intro a o e
  obtain ⟨_,q,hl⟩ := nums_at _ _ _ _ e
  have q : h.objs[a]? = some o := by simpa using q
  unfold Heap.get?
  rw [q]
  obtain ⟨c,d,dt,sl⟩ := o
  cases dt <;> first | rfl | cases hl
def fnFact (K : Frag) (x : Str) : Option (Arguments × List Stmt × Scope × Value) := match nsIn K mainGlobals x with
  | some (some (.ref f)) => (match K.lookup f with
    | some ⟨_,_,.func fd,_⟩ => (match fd.body,fd.closure with
      | .stmts b,[] => bif (fd.name == x && (fd.qualname == x && (Nat.beq fd.globals mainGlobals && (Nat.beq fd.builtins builtinsNs && codeIn K fd.code x)))) then some (fd.params,b,fd.scope,fd.defaults) else none
      | _,_ => none)
    | _ => none)
  | _ => none
theorem fnFact_spec {K : Frag} {x : Str} {a : Arguments} {b : List Stmt} {sc : Scope} {dv : Value} (e : fnFact K x = some (a,b,sc,dv)) :
    ∃ (f : Addr) (oc : Value) (od : Option Addr) (kV doc pm : Value) (an : Option Addr) (cdv ct : Value) (osl : Array (Option Value)),
      nsIn K mainGlobals x = some (some (.ref f)) ∧ K.lookup f = some ⟨oc,od,.func (fnOf x x a b sc dv kV doc pm an cdv ct),osl⟩ ∧ codeIn K cdv x = true ∧ keepIn K (.ref f) = true := by
  unfold fnFact at e
  split at e
  · rename_i f hf
    split at e
    · rename_i oc od fd osl hl
      split at e
      · rename_i b' hb hc
        cases hq : (fd.name == x && (fd.qualname == x && (Nat.beq fd.globals mainGlobals && (Nat.beq fd.builtins builtinsNs && codeIn K fd.code x)))) with
        | false => rw [hq] at e; cases e
        | true =>
          rw [hq] at e
          simp only [Bool.and_eq_true] at hq
          obtain ⟨h1,h2,h3,h4,h5⟩ := hq
          replace h1 := eq_of_beq h1
          replace h2 := eq_of_beq h2
          replace h3 := Nat.eq_of_beq_eq_true h3
          replace h4 := Nat.eq_of_beq_eq_true h4
          simp only [cond_true,Option.some.injEq,Prod.mk.injEq] at e
          obtain ⟨e1,e2,e3,e4⟩ := e
          obtain ⟨n,qn,ps,bd,s,gl,cl,df,kw,dc,pm,an,cd,ct,bl⟩ := fd
          simp only at h1 h2 h3 h4 h5 e1 e2 e3 e4 hb hc
          subst h1 h2 h3 h4 e1 e2 e3 e4 hb hc
          refine ⟨f,oc,od,kw,dc,pm,an,cd,ct,osl,hf,hl,h5,?_⟩
          unfold keepIn
          dsimp only
          rw [hl]
      · cases e
    · cases e
  · cases e
theorem df_of {K : Frag} {mg : Str → Option Value} {h : Heap} {x : Str} {st : Stmt} (X : K.In h) (G : h.Ns mainGlobals mg) (e : fnFact K x = some (defArgs st,defBody st,defScope st,.none)) : Df K mg x st := by
  obtain ⟨f,oc,od,kV,doc,pm,an,cdv,ct,osl,h1,h2,h3,h4⟩ := fnFact_spec e
  exact df_mk X G h1 h2 h3 h4
def bareV : Value → V
  | .none => .non
  | .bool b => .bl b
  | .int i _ => .int i
  | .str x _ => .str x
  | .bytes b _ => .byt b
  | .float b _ => .flt b
  | .ref a => .ref a
  | .type n => .ty n
  | _ => .ty "no plain value"
def plainV : Value → Bool
  | .ellipsis | .notImplemented | .builtin _ => false
  | _ => true
theorem bareV_rel : ∀ {v : Value},plainV v = true → RelV (bareV v) v
  | .none,_ => rfl
  | .bool _,_ => rfl
  | .int _ t,_ => ⟨t,rfl⟩
  | .str _ t,_ => ⟨t,rfl⟩
  | .bytes _ t,_ => ⟨t,rfl⟩
  | .float _ t,_ => ⟨t,rfl⟩
  | .ref _,_ => rfl
  | .type _,_ => rfl
  | .ellipsis,h => by cases h
  | .notImplemented,h => by cases h
  | .builtin _,h => by cases h
theorem vals_bare : ∀ {l : List Value},l.all plainV = true → Vals (l.map bareV) l
  | [],_ => .nil
  | _ :: _,h => by
    rw [List.all_cons,Bool.and_eq_true] at h
    exact .cons (bareV_rel h.1) (vals_bare h.2)
def seqAt (K : Frag) (v : Value) : Option (List V) := match v with
  | .ref a => (match K.lookup a with
    | some ⟨_,_,.seq its _,_⟩ => bif its.toList.all plainV then some (its.toList.map bareV) else none
    | _ => none)
  | _ => none
def fnFactD (K : Frag) (x : Str) : Option (Arguments × List Stmt × Scope × List V) := match fnFact K x with
  | some (a,b,s,dv) => (match seqAt K dv with
    | some ds => some (a,b,s,ds)
    | none => none)
  | none => none
def cls (K : Frag) (x : Str) : Addr := match nsIn K mainGlobals x with
  | some (some (.ref C)) => C
  | _ => 0
def excFact (K : Frag) (x : Str) : Bool := match nsIn K mainGlobals x with
  | some (some (.ref C)) => excIn K C [.type "ValueError",.type "Exception",.type "BaseException",.type "object"] "ValueError.__new__"
  | _ => false
theorem exc_of {K : Frag} {mg : Str → Option Value} {h : Heap} {x : Str} (X : K.In h) (G : h.Ns mainGlobals mg) (e : excFact K x = true) : ExcC K mg x (cls K x) := by
  unfold excFact at e
  split at e
  · rename_i C hC
    have : cls K x = C := by unfold cls; rw [hC]
    rw [this]
    exact exc_mk X G hC e
  · cases e
def tupFact (K : Frag) (x : Str) : Option (List V) := match nsIn K mainGlobals x with
  | some (some (.ref a)) => (match K.lookup a with
    | some ⟨.type "tuple",_,.seq its _,_⟩ => bif its.toList.all plainV then some (its.toList.map bareV) else none
    | _ => none)
  | _ => none
theorem tup_of {K : Frag} {x : Str} {ds : List V} (e : tupFact K x = some ds) : ∃ (a : Addr) (od : Option Addr) (its : List Value) (n : Nat) (osl : Array (Option Value)),nsIn K mainGlobals x = some (some (.ref a)) ∧ K.lookup a = some ⟨.type "tuple",od,.seq its.toArray n,osl⟩ ∧ Vals ds its := by
  unfold tupFact at e
  split at e
  · rename_i a ha
    split at e
    · rename_i od its n osl hl
      cases hq : its.toList.all plainV with
      | false => rw [hq] at e; cases e
      | true =>
        rw [hq] at e
        cases e
        exact ⟨a,od,its.toList,n,osl,ha,hl,vals_bare hq⟩
    · cases e
  · cases e
def noFact (K : Frag) (x : Str) : Bool := match nsIn K mainGlobals x with
  | some none => true
  | _ => false
theorem no_of {K : Frag} {x : Str} (e : noFact K x = true) : nsIn K mainGlobals x = some none := by
  unfold noFact at e
  split at e
  · rename_i h
    exact h
  · cases e
theorem at_map {α β : Type} {f g : α → β} {l : List α} (e : l.map f = l.map g) (i : Nat) {a : α} (h : l[i]? = some a) : f a = g a := by
  have q := congrArg (fun l : List β => l[i]?) e
  simp only [List.getElem?_map,h,Option.map_some,Option.some.injEq] at q
  exact q
theorem at_all {α : Type} {f : α → Bool} {l : List α} (e : l.all f = true) (i : Nat) {a : α} (h : l[i]? = some a) : f a = true :=
  List.all_eq_true.mp e a (List.mem_of_getElem? h)
theorem at_two {α : Type} {l m : List α} (e : l = m) (i : Nat) {a b : α} (h : l[i]? = some a) (h' : m[i]? = some b) : a = b := by
  subst e
  rw [h] at h'
  exact Option.some.inj h'
def hook {α : Type} (facts : Frag → α) (val : α) : Hook :=
  ⟨α,fun s => facts (frag s.heap),fun _ => val,fun _ h => ∃ K : Frag,K.In h ∧ facts K = val,fun _ s e => ⟨_,frag_in s.heap,e⟩,fun _ _ _ ⟨K,hi,e⟩ k => ⟨K,Frag.In.keeps hi k,e⟩⟩
theorem law_walk {l : OpenLaw} {k : Nat} {q : Program} {loose : List Str} {XP : (Str → Option Value) → Heap → Prop} {d : DefRec} {α : Type} {facts : Frag → α} {val : α} (hk : Room k callerA) (hn : l.most = some 63) (hdf : d.params.defaults = [])
    (F : ∀ (K : Frag),facts K = val → ∀ (w : World) (mg : Str → Option Value) (fa : Addr) (h : Heap),K.In h → h.Ns mainGlobals mg → mg d.name = some (.ref fa) →
      ∃ fd : FuncData,(∀ (s : Shared) (u : Value),BindsTo s fd ⟨[u],[]⟩ [("script",u)]) ∧ ∀ base : Heap,K.In base → base.Ns mainGlobals mg → FnOk l.prog w K mg base CX0 k fa fd ["script"] (spLaw K)) :
    WalkO q loose XP (Hook.says (hook facts val)) l.row.toRowW d [] (fun f vs => PySem.call f vs) := by
  intro w s₀ s₁ mg mb G Y
  obtain ⟨K,hin,hf⟩ := Y
  exact L2.law_walk (l := l) (k := k) (q := q) (loose := loose) (XP := XP) (YP := fun _ h => K.In h) (d := d) (K := fun _ => K) hk hn hdf (fun _ _ y => y) (fun w mg fa h => F K hf w mg fa h) w s₀ s₁ mg mb G hin
end Hd
namespace Hd
open PySem PySem.W PySem.Spec L2
theorem vals_sz {ds : List V} {its : List Value} (u : Vals ds its) (h : ds.length ≤ 100) : its.toArray.size ≤ 100 := by
  rw [List.size_toArray,← u.length]
  exact h
end Hd
namespace L2
open PySem PySem.Spec PyProof.Rows
end L2
namespace Hd
open PySem PySem.W PySem.Spec L2
theorem pair2 {α β : Type _} {a a' : α} {b b' : β} (h : a = a') (g : b = b') : (a,b) = (a',b') := by rw [h,g]
end Hd
namespace Hd
open PySem PySem.W PySem.Spec L2
theorem const_of {K : Frag} {mg : Str → Option Value} {h : Heap} {x : Str} {v : V} (X : K.In h) (G : h.Ns mainGlobals mg) (e : (nsIn K mainGlobals x).map (fun o => o.map bareV) = some (some v)) : ∃ u,mg x = some u ∧ bareV u = v := by
  cases hn : nsIn K mainGlobals x with
  | none =>
    rw [hn] at e
    cases e
  | some o =>
    cases o with
    | none =>
      rw [hn] at e
      cases e
    | some u =>
      rw [hn] at e
      exact ⟨u,mg_of X G hn,Option.some.inj (Option.some.inj e)⟩
theorem int_of {K : Frag} {mg : Str → Option Value} {h : Heap} {x : Str} {i : Int} (X : K.In h) (G : h.Ns mainGlobals mg) (e : (nsIn K mainGlobals x).map (fun o => o.map bareV) = some (some (.int i))) : ∃ tk,mg x = some (.int i tk) := by
  obtain ⟨u,h1,h2⟩ := const_of X G e
  cases u <;> first | (cases h2; exact ⟨_,h1⟩) | cases h2
theorem str_of {K : Frag} {mg : Str → Option Value} {h : Heap} {x z : Str} (X : K.In h) (G : h.Ns mainGlobals mg) (e : (nsIn K mainGlobals x).map (fun o => o.map bareV) = some (some (.str z))) : ∃ tk,mg x = some (.str z tk) := by
  obtain ⟨u,h1,h2⟩ := const_of X G e
  cases u <;> first | (cases h2; exact ⟨_,h1⟩) | cases h2
end Hd
namespace PySem
namespace F
theorem lri_no_len : typeLookup (.type "list_reverseiterator") (Str.ofString "__len__") = pure none := by rw [typeLookup_type,builtinLookup_eq_fast]; kernel_rfl
theorem lri_hint : typeLookup (.type "list_reverseiterator") (Str.ofString "__length_hint__") = pure (some (.builtin "list_reverseiterator.__length_hint__")) := by rw [typeLookup_type,builtinLookup_eq_fast]; kernel_rfl
end F
section
variable {prog : Program} {w : World} {A : Around} {E : Value → Shared → Prop} {s : Shared}
theorem wpAny_hint_rev {it : Addr} {Q : Bool → Shared → Prop} (hT : s.TypeIs (.ref it) "list_reverseiterator") (h : Q false s) : wpAny (model prog w) A (Builtin.List.listLengthHint (.ref it)) Q E s := by
  unfold Builtin.List.listLengthHint
  refine wpAny_bind (wpAny_specialOf hT F.lri_no_len ?_)
  show wpAny _ A (specialOf (Value.ref it) (Str.ofString "__length_hint__") >>= _) _ _ _
  refine wpAny_bind (wpAny_specialOf hT F.lri_hint ?_)
  generalize hid : ("list_reverseiterator.__length_hint__" : String) = id0
  wp_delta
  rw [show splitId id0 = some ("list_reverseiterator","__length_hint__") from by subst hid; decide +kernel]
  subst hid
  refine wpAny_bind (wpAny_isInstance (T := "list_reverseiterator") (b := true) hT (by rw [isSubtype_type]; kernel_rfl) ?_)
  refine wpAny_ite_split (fun hab => absurd hab (by decide)) (fun _ => ?_)
  refine wpAny_ite_split (fun _ => ?_) (fun hab => absurd (by decide +kernel) hab)
  refine wpAny_ite_split (fun hab => absurd hab (by decide +kernel)) (fun _ => ?_)
  exact wpAny_pure h
theorem wpAny_extend_rev {R : Result → Shared → Prop} {it l : Addr} {items : Array Value} (hh : A.handled = none) (hit : s.heap.IsRevIter it l ((items.size : Int) - 1)) (hl : s.heap.IsList l items) (hne : l ≠ it) (hn : items.size ≤ sizeLine) (S : Addr) (res : Value) (c₀ : Nat) (hSi : S ≠ it) (hSl : S ≠ l)
    (hS : s.heap.get? S = some { cls := .type "list",data := .seq #[] c₀ })
    (hR : ∀ h' tk acc' c',(∀ b o,b ≠ S → b ≠ it → s.heap.get? b = some o → h'.get? b = some o) → h'.get? S = some { cls := .type "list",dict := none,data := .seq acc' c',slots := #[] } →
      ItemsOf (fun i v => items[items.size - 1 - i]? = some v) acc' items.size → R (.ok (.ret res)) { s with heap := h',toks := tk }) :
    wpAny (model prog w) A.in1 (Builtin.List.listExtendWith (.ref S) (.ref it) res)
      (fun fin s' => match fin with | .done f => R (.ok f) s' | .again c' => c'.quiet = true ∧ codeAny (model prog w) A c' R s') (fun e s' => R (.error e) s') s := by
  have W := (Walks.listRev (prog := prog) (w := w) (A := A.in1) hh it l hne items).toS
  have hSf : S ∉ [it,l] := fun hm => by
    simp only [List.mem_cons,List.not_mem_nil,or_false] at hm
    rcases hm with e | e
    · exact hSi e
    · exact hSl e
  unfold Builtin.List.listExtendWith
  refine wpAny_bind (wpAny_typeOf hit.typeIs ?_)
  have h1 : Builtin.List.listSameRef (.ref S) (.ref it) = false := by simp [Builtin.List.listSameRef,hSi]
  have h2 : (Value.type "list_reverseiterator" == Value.type "list") = false := by decide
  have h3 : (Value.type "list_reverseiterator" == Value.type "tuple") = false := by decide
  simp only [h1,h2,h3,Bool.or_false,Bool.false_eq_true,if_false]
  refine wpAny_bind (wpAny_pyIter_revIter hit ?_)
  refine wpAny_bind (wpAny_holding (wpAny_hint_rev hit.typeIs ?_))
  refine wpAny_ite_split (fun hab => absurd hab (by decide +kernel)) (fun _ => ?_)
  refine wpAny_pure ⟨plainId_quiet F.plain_extend_loop _,codeAny_extend_loopS W hn S hSf res items.size 0 s #[] c₀ rfl (Nat.zero_le _) ⟨Nat.zero_le _,by simpa using hit,hl⟩ hS (ItemsOf.nil _) fun s' acc' c' hm hS' hacc => ?_⟩
  rw [Moved.eq_with hm]
  refine hR s'.heap s'.toks acc' c' (fun b o hb hi e => hm.heap b o (fun hmem => ?_) e) hS' hacc
  rcases List.mem_cons.mp hmem with e' | hmem
  · exact hb e'
  · exact hi (List.mem_singleton.mp hmem)
theorem call_list_rev {Q : Value → Shared → Prop} {it l : Addr} {items : Array Value} (hh : A.handled = none) (hit : s.heap.IsRevIter it l ((items.size : Int) - 1)) (hl : s.heap.IsList l items) (hne : l ≠ it) (hn : items.size ≤ sizeLine)
    (hQ : ∀ h' tk acc' c',(∀ b o,b ≠ it → s.heap.get? b = some o → h'.get? b = some o) →
      h'.get? s.heap.objs.size = some { cls := .type "list",dict := none,data := .seq acc' c',slots := #[] } → ItemsOf (fun i v => items[items.size - 1 - i]? = some v) acc' items.size → Q (.ref s.heap.objs.size) { s with heap := h',toks := tk }) :
    wpAny (model prog w) A (call (.type "list") [.ref it]) Q E s := by
  obtain ⟨oi,hoi,_⟩ := id hit
  obtain ⟨ol,hol,_⟩ := id hl
  have hi := Heap.lt_size hoi
  have hll := Heap.lt_size hol
  refine callType_codes (Q₁ := fun obj s₁ => obj = .ref s.heap.objs.size ∧ s₁ = { s with heap := s.heap.push { cls := .type "list",data := .seq #[] } }) F.called_list (F.typeCall_list_1 _) F.entry_list_init
    (code_list_new _ ⟨rfl,rfl⟩) fun obj s₁ h₁ => ?_
  obtain ⟨rfl,rfl⟩ := h₁
  have hS : (s.heap.push { cls := .type "list",data := .seq #[] }).get? s.heap.objs.size = some { cls := .type "list",data := .seq #[] } := Heap.get?_push_size _ rfl
  refine ⟨⟨_,hS,rfl⟩,F.args_list_init_2 _ _,?_⟩
  show wpAny _ _ (do let old ← Builtin.List.listItems (.ref s.heap.objs.size); Builtin.List.listUpdate (.ref s.heap.objs.size) (fun _ => #[]); letGo old.toList.reverse; Builtin.List.listExtendWith (.ref s.heap.objs.size) (.ref it) .none) _ _ _
  refine wpAny_bind ?_
  unfold Builtin.List.listItems
  refine wpAny_bind (wpAny_seqItems hS rfl (wpAny_pure ?_))
  show wpAny _ _ (updateSeq s.heap.objs.size (fun _ => #[]) >>= fun _ => letGo (#[] : Array Value).toList.reverse >>= fun _ => Builtin.List.listExtendWith (.ref s.heap.objs.size) (.ref it) .none) _ _ _
  refine wpAny_bind (wpAny_updateSeq hS rfl ?_)
  have hS₂ := Heap.get?_update_self (Obj.mapSeq (fun _ => (#[] : Array Value))) hS rfl
  have oth : ∀ b o,b ≠ s.heap.objs.size → s.heap.get? b = some o → ((s.heap.push { cls := .type "list",data := .seq #[] }).update s.heap.objs.size (Obj.mapSeq (fun _ => (#[] : Array Value)))).get? b = some o :=
    fun b o hb e => (Heap.get?_update_other _ _ (Ne.symm hb)).trans (Heap.get?_push_of_some _ e)
  refine wpAny_bind (wpAny_letGo ?_)
  refine wpAny_extend_rev (A := A.in1) hh (hit.at fun o e => oth it o (Nat.ne_of_lt hi) e) (hl.at fun o e => oth l o (Nat.ne_of_lt hll) e) hne hn _ .none _ (Nat.ne_of_gt hi) (Nat.ne_of_gt hll) hS₂ fun h' tk acc' c' hk hS' hacc => ?_
  exact ⟨rfl,hQ h' tk acc' c' (fun b o hb e => hk b o (Nat.ne_of_lt (Heap.lt_size e)) hb (oth b o (Nat.ne_of_lt (Heap.lt_size e)) e)) hS' hacc⟩
end
end PySem
namespace L2
open PySem PySem.Spec PyProof.Rows
section
variable {X : Cx} {e : Expr} {te : TE} {p1 p2 q1 q2 : Pos}
theorem bt_reversed : bootBuiltins "reversed" = some (.type "reversed") := by decide +kernel
def tListRev (K : PySem.W.Frag) (te : TE) : TE := fun σ H Q => te σ H fun x H1 => ∃ a xs,[x] = [.ref a] ∧ SqL K H1 a xs ∧ ∀ l H2,Same H1 H2 → H2 l = some (.lst xs.reverse) → H1 l = none → Q (.ref l) H2
theorem pe_list_rev (hcalm : X.calm = true) (gl : Gl X "list") (ml : X.mg "list" = none) (gr : Gl X "reversed") (mr : X.mg "reversed" = none) (he : PE X e te)
    (h1 : starEach [.Call (.Name "reversed" p1) [e] [] q1] X.env = [(false,eval (.Call (.Name "reversed" p1) [e] [] q1) X.env)] := by rfl) (h2 : starEach [e] X.env = [(false,eval e X.env)] := by rfl) :
    PE X (.Call (.Name "list" p2) [.Call (.Name "reversed" p1) [e] [] q1] [] q2) (tListRev X.K te) := by
  intro pins s σ H Q I h
  have h' : (tCons te tNil) σ H (fun vs H1 => ∃ a xs,vs = [.ref a] ∧ SqL X.K H1 a xs ∧ ∀ l H2,Same H1 H2 → H2 l = some (.lst xs.reverse) → H1 l = none → Q (.ref l) H2) := h
  have inner : wpAny (model X.prog X.w) X.A (eval (.Call (.Name "reversed" p1) [e] [] q1) X.env) (fun u s1 => ∃ (it a : Addr) (xs : List V) (its : List Value) (H1 : Hp),u = .ref it ∧ Inv X pins σ H1 s1 ∧ Vals xs its ∧ s1.heap.IsList a its.toArray ∧ xs.length ≤ sizeLine ∧ a ≠ it ∧ FpOk X pins H1 it ∧ s1.heap.IsRevIter it a ((its.toArray.size : Int) - 1) ∧
      ∀ l H2,Same H1 H2 → H2 l = some (.lst xs.reverse) → H1 l = none → Q (.ref l) H2) X.xe s := by
    refine wpAny_Call_Name_kw (ld_blt I gr mr bt_reversed (PyProof.Rows.callWith_type1 (thn ((pa_cons he pa_nil h2) q1 pins s σ H (fun vs H1 => ∃ a xs,vs = [.ref a] ∧ SqL X.K H1 a xs ∧ ∀ l H2,Same H1 H2 → H2 l = some (.lst xs.reverse) → H1 l = none → Q (.ref l) H2) I ?_) fun us s1 ⟨vs,H1,I1,r1,q⟩ => ?_) h2 rfl))
    · exact h'
    · obtain ⟨a,xs,rfl,hx,k⟩ := q
      obtain ⟨u,rfl,ru⟩ := vals1 r1
      cases ru
      obtain ⟨its,rv,pl,hz⟩ := I1.list hx
      refine call_reversed_list pl.isList ?_
      have al : a < s1.heap.objs.size := by obtain ⟨_,e,_⟩ := pl.isList; exact Heap.lt_size e
      have kp : ∀ b o,s1.heap.get? b = some o → (s1.heap.push (revObj a ((its.toArray.size : Int) - 1))).get? b = some o := fun b o e => Heap.get?_push_of_some _ e
      exact ⟨_,a,xs,its,H1,rfl,I1.kept (t' := s1.toks) kp,rv,pl.isList.at fun o e => kp _ o e,hz,Nat.ne_of_lt al,I1.fpOk (Nat.le_refl _) (I1.hok.fresh (Nat.le_refl _)),⟨_,Heap.get?_push_size _ rfl,rfl,rfl⟩,k⟩
  refine wpAny_Call_Name_kw (ld_blt I gl ml bt_list (PyProof.Rows.callWith_type1 ?_ h1 rfl))
  rw [h1]
  refine Calls.spliced_cons (thn inner fun u s1 ⟨it,a,xs,its,H1,eu,I1,rv,hl,hz,hne,fp,hrev,k⟩ => ?_)
  subst eu
  refine Calls.spliced_nil ?_
  have hlen := rv.length
  refine call_list_rev (I.ok.hd hcalm) hrev hl hne (by rw [List.size_toArray]; omega) fun h' tk acc' c' hk hS hacc => ?_
  obtain ⟨f0,f1,f2,f3,f4,f5⟩ := fp
  have hfr : H1 s1.heap.objs.size = none := I1.hok.fresh (Nat.le_refl _)
  have J1 : Inv X pins σ H1 { s1 with heap := h',toks := tk } := I1.turned (fun b o hb e => hk b o hb e) f0 f1 f3 f4 f5
  have hv : Vals xs.reverse acc'.toList := by
    have e : acc' = its.reverse.toArray := by
      obtain ⟨h3,h4⟩ := hacc
      refine Array.ext ?_ fun j hj1 hj2 => ?_
      · rw [h3]; simp
      · have z := h4 j _ (Array.getElem?_eq_getElem hj1)
        rw [List.size_toArray] at z
        have hj : j < its.length := by simpa using hj2
        have z' : its[its.length - 1 - j]? = some acc'[j] := by simpa using z
        have y : its.reverse[j]? = its[its.length - 1 - j]? := by rw [List.getElem?_reverse hj]
        rw [z'] at y
        have y2 : its.reverse.toArray[j]? = some acc'[j] := by simpa using y
        rw [Array.getElem?_eq_getElem hj2] at y2
        exact (Option.some.inj y2).symm
    rw [e]
    exact rv.reverse
  have hn : X.s₀.heap.get? s1.heap.objs.size = none := by
    cases e : X.s₀.heap.get? s1.heap.objs.size with
    | none => rfl
    | some o => exact absurd (Nat.lt_of_lt_of_le (Heap.lt_size e) I1.sz) (Nat.lt_irrefl _)
  obtain ⟨g0,g1,g2,g3,g4,g5⟩ := I1.fpOk (H' := H1) (Nat.le_refl _) hfr
  have J2 := J1.track (o := .lst xs.reverse) hfr hn g1 g4 g5 ⟨by rw [List.length_reverse]; exact hz,acc'.toList,c',hv,by simpa using hS⟩
  exact ⟨.ref s1.heap.objs.size,_,J2,rfl,k _ _ (Same.new hfr) upd_same hfr⟩
end
section
variable {X : Cx}
def rPopAtA : V → List V → Hp → VK → Prop := fun x vs H Q => ∃ l xs i k y,x = .ref l ∧ vs = [.int i] ∧ H l = some (.lst xs) ∧ -(2 ^ 63) ≤ i ∧ i < 2 ^ 63 ∧ seqIndex? i xs.length = some k ∧ xs[k]? = some y ∧ ∀ H',Upd H H' l xs (xs.eraseIdx k) → Q y H'
theorem mt_popAtA : MtM X "list.pop" rPopAtA := fun pins s σ H x xs v us Q I rx rs ⟨l,ys,i,k,y,e1,e2,h,b1,b2,hk,hy,q⟩ =>
  mt_popAt pins s σ H x xs v us Q I rx rs ⟨l,ys,i,k,y,e1,e2,h,b1,b2,hk,hy,q _ (.mk' h)⟩
def rInsA : V → List V → Hp → VK → Prop := fun x vs H Q => ∃ (l : Addr) (xs : List V) (i : Int) (y : V),x = .ref l ∧ vs = [.int i,y] ∧ H l = some (.lst xs) ∧ (0 ≤ i ∧ i ≤ (xs.length : Int)) ∧ xs.length < 1000 ∧ ∀ H',Upd H H' l xs (xs.take i.toNat ++ [y] ++ xs.drop i.toNat) → Q .non H'
theorem ins_eq {its : List Value} {u2 : Value} {i : Int} (h0 : 0 ≤ i) (h1 : i ≤ (its.length : Int)) : (fun xs : Array Value => have k := if i < 0 then (i + (xs.size : Int)).toNat else min i.toNat xs.size; (xs.extract 0 k).push u2 ++ xs.extract k) its.toArray = (its.take i.toNat ++ [u2] ++ its.drop i.toNat).toArray := by
  have hmin : min i.toNat its.toArray.size = i.toNat := by rw [List.size_toArray]; omega
  dsimp only
  rw [if_neg (by omega),hmin]
  simp
  exact List.take_of_length_le (by rw [List.length_drop]; exact Nat.le_refl _)
theorem mt_insA : MtM X "list.insert" rInsA := by
  intro pins s σ H x vs v us Q I rx rv h
  obtain ⟨l,xs,i,y,rfl,rfl,hH,⟨h0,h1⟩,hz,q⟩ := h
  cases rx
  obtain ⟨u1,u2,rfl,r1,r2⟩ := vals2 rv
  obtain ⟨t,rfl⟩ := r1
  obtain ⟨z,its,n,r,hl,e⟩ := I.lstM hH
  have hsz : its.toArray.size ≤ sizeLine := by rw [List.size_toArray]; exact Sp1.sz (by omega)
  have e63 : (2 : Int) ^ 63 = 9223372036854775808 := by decide
  have b1 : -(2 ^ 63) ≤ i := by rw [e63]; omega
  have b2 : i < 2 ^ 63 := by rw [e63]; omega
  have hfit : ¬ (!Builtin.List.listFitsIndex i) = true := by
    rw [fitsIndex_both b1 b2]
    exact Bool.false_ne_true
  have hf := ins_eq (its := its) (u2 := u2) h0 (by omega)
  clear b1 b2 e63
  refine call_meets F.slot_list_insert ⟨_,e,rfl⟩ F.entry_list_insert (F.args_list_insert_3 _ _ _) (AutoSeq1.list_insert_list_int_val_1 l its.toArray n i t u2 hfit hsz) ⟨e,?_⟩
  refine ⟨.non,_,I.lset (its' := its.take i.toNat ++ [u2] ++ its.drop i.toNat) (ys := xs.take i.toNat ++ [y] ++ xs.drop i.toNat) hH e hf (((r.take i.toNat).append (.cons r2 .nil)).append (r.drop i.toNat)) ?_,rfl,q _ (.mk' hH)⟩
  refine Sp1.sz ?_
  simp only [List.length_append,List.length_take,List.length_drop,List.length_cons,List.length_nil]
  omega
end
end L2
namespace L2
open PySem PySem.Spec PyProof.Rows
section
variable {prog : Program} {w : World} {A : Around} {E : Value → Shared → Prop} {s : Shared}
theorem bounds_clip {a c n : Nat} (ha : a ≤ n) : sliceBounds (some (a : Int)) (some (c : Int)) none n = ((a : Int),((min c n : Nat) : Int),1) := by
  rw [PySem.W.kms_bounds]
  have e1 : PySem.W.kms_lo (some (a : Int)) n = a := by
    unfold PySem.W.kms_lo
    dsimp only
    rw [if_neg (by omega),Int.toNat_natCast]
    omega
  have e2 : PySem.W.kms_hi (some (c : Int)) n = min c n := by
    unfold PySem.W.kms_hi
    dsimp only
    rw [if_neg (by omega),Int.toNat_natCast]
  rw [e1,e2]
theorem put_slice {l b sl : Addr} {items new : Array Value} {n n2 : Nat} {vl vu : Value} {a c : Nat} {Q : Unit → Shared → Prop}
    (e : s.heap.get? l = some { cls := .type "list",data := .seq items n }) (e2 : s.heap.get? b = some { cls := .type "list",data := .seq new n2 }) (hne : l ≠ b)
    (hs : s.heap.IsSliceOf sl vl vu .none) (pl : IsPart vl (some (a : Int))) (pu : IsPart vu (some (c : Int))) (hac : a ≤ c) (ha : a ≤ items.size)
    (hsz : items.size + new.size ≤ sizeLine) (h : Q () { s with heap := s.heap.update l (Obj.mapSeq fun xs => xs.extract 0 a ++ new ++ xs.extract (min c items.size) xs.size) }) :
    wpAny (model prog w) A (setItem (.ref l) (.ref sl) (.ref b)) Q E s := by
  have hl : s.heap.IsList l items := PySem.IsL.isList e
  have hb : s.heap.IsList b new := PySem.IsL.isList e2
  obtain ⟨os,hos,hcs,hds⟩ := id hs
  have hm : (max (a : Int) ((min c items.size : Nat) : Int)).toNat = min c items.size := by omega
  have hz' : ((fun xs : Array Value => xs.extract 0 a ++ new ++ xs.extract (min c items.size) xs.size) items).size ≤ sizeLine + 1 := by
    simp only [Array.size_append,Array.size_extract]
    omega
  unfold setItem
  refine wpAny_holding (wpAny_bind (wpAny_sequenceKey hl.typeIs (by decide) ?_))
  refine wpAny_bind (wpAny_callSpecial?_slot (name := Str.ofString "__setitem__") hl.typeIs slot_list_setitem (wpAny_call_entry slot_list_setitem hl.typeIs entry_list_setitem ?_ (args_list_setitem _ _ _)))
  refine wpAny_bind (m := Builtin.List.listSubscript? (.ref sl)) ?_
  unfold Builtin.List.listSubscript?
  refine wpAny_bind (wpAny_specialOf ⟨os,hos,hcs⟩ slice_no_index ?_)
  simp only [Option.isNone_none,if_true]
  refine wpAny_pure (wpAny_bind (wpAny_typeOf (T := "slice") ⟨os,hos,hcs⟩ ?_))
  rw [if_neg (by decide),listSliceParts_eq]
  refine wpAny_bind (wpAny_bind (wpAny_field hos hds (x := .none) rfl (wpAny_bind (wpAny_listPart .none ?_))))
  have h0 : ¬ ((rawPart none == rawInt 0) = true) := Bool.false_ne_true
  rw [if_neg h0]
  refine wpAny_bind (wpAny_field hos hds (x := vl) rfl (wpAny_bind (wpAny_listPart pl ?_)))
  refine wpAny_bind (wpAny_field hos hds (x := vu) rfl (wpAny_bind (wpAny_listPart pu (wpAny_pure ?_))))
  have same : Builtin.List.listSameRef (.ref l) (.ref b) = false := beq_eq_false_iff_ne.mpr hne
  rw [if_neg (by rw [same]; exact Bool.false_ne_true)]
  refine wpAny_bind (m := Builtin.List.listAllItems (.ref b) "must assign iterable to extended slice") ?_
  unfold Builtin.List.listAllItems
  refine wpAny_bind (wpAny_typeOf hb.typeIs ?_)
  rw [if_pos (by decide)]
  unfold Builtin.List.listItems
  refine wpAny_bind (wpAny_seqItems e2 rfl (wpAny_pure (wpAny_bind (wpAny_bind (wpAny_seqItems e rfl (wpAny_pure ?_))))))
  refine wpAny_bind (wpAny_of_eq ((sliceIndices_raw (some (a : Int)) (some (c : Int)) none items.size (by simp)).trans (congrArg (pure : Int × Int × Int → Sem (Int × Int × Int)) (bounds_clip ha))) ?_)
  show wpAny _ _ (if ((1 : Int) == 1) = true then _ else _) _ _ s
  rw [if_pos (by decide)]
  refine wpAny_bind (wpAny_rule ?_)
  rw [if_neg (by rw [notLongL hsz]; exact Bool.false_ne_true)]
  show wpAny _ _ (updateSeq l (fun xs => xs.extract 0 (a : Int).toNat ++ new ++ xs.extract (max (a : Int) ((min c items.size : Nat) : Int)).toNat xs.size) >>= _) _ _ s
  rw [hm,Int.toNat_natCast]
  refine wpAny_bind (wpAny_updateSeq (hz := Nat.le_trans (Nat.le_add_right _ _) hsz) (_hz' := hz') e rfl (wpAny_bind (wpAny_letGo ?_)))
  exact wpAny_pure ⟨.none,rfl,wpAny_pure h⟩
end
section
variable {X : Cx} {o : Expr} {lo hi : Option Expr} {to : TE} {tl th : TO} {pos p2 : Pos}
def gSlc (to : TE) (tl th : TO) : TG := fun v σ H Q => to σ H fun o H1 => tl σ H1 fun lo H2 => th σ H2 fun hi H3 => ∃ l b xs ys a c,o = .ref l ∧ v = .ref b ∧ lo = some a ∧ hi = some c ∧ l ≠ b ∧ H3 l = some (.lst xs) ∧ H3 b = some (.lst ys) ∧
  0 ≤ a ∧ a ≤ c ∧ a ≤ xs.length ∧ xs.length + ys.length ≤ sizeLine ∧ Q σ (upd H3 l (.lst (xs.take a.toNat ++ ys ++ xs.drop c.toNat)))
theorem pg_slc (ho : PE X o to) (hl : PO X lo tl) (hu : PO X hi th)
    (ha : ∀ v,assign (.Subscript o (.Slice lo hi none p2) pos) X.env v = (do
      let ov ← holding [v] (eval o X.env)
      let iv ← holding [v,ov] (eval (.Slice lo hi none p2) X.env)
      standAt pos
      holding [v,ov,iv] (setItem ov iv v)
      release [iv,v,ov] []) := by intro _; rfl) : PG X (.Subscript o (.Slice lo hi none p2) pos) (gSlc to tl th) := by
  intro pins s σ H v u Q I r h
  rw [ha]
  refine wpAny_bind (wpAny_holding (thn (ho pins s σ H _ I h) fun ov s1 ⟨x,H1,I1,r1,q1⟩ => ?_))
  refine wpAny_bind (wpAny_holding (wpAny_Slice (thn (hl pins s1 σ H1 _ I1 q1) fun vl s2 ⟨l,H2,I2,pl,q2⟩ => thn (hu pins s2 σ H2 _ I2 q2) fun vu s3 ⟨u',H3,I3,pu,q3⟩ => ?_)))
  rw [evalPart_none]
  refine wpAny_pure ?_
  have I4 : Inv X pins σ H3 { s3 with heap := s3.heap.push { cls := .type "slice",data := .fields #[vl,vu,.none] } } := I3.kept (t' := s3.toks) fun b ob q => Heap.get?_push_of_some _ q
  obtain ⟨l,b,xs,ys,a,c,rfl,rfl,rfl,rfl,hne,e1,e2,h0,hac,hla,hz,q⟩ := q3
  cases r1
  cases r
  obtain ⟨z,its,n,r,hl,f1⟩ := I4.lstM e1
  obtain ⟨z2,its2,n2,r2,hl2,f2⟩ := I4.lstM e2
  obtain ⟨a',rfl⟩ := Int.eq_ofNat_of_zero_le h0
  obtain ⟨c',rfl⟩ := Int.eq_ofNat_of_zero_le (Int.le_trans h0 hac)
  simp only [Int.toNat_natCast] at q
  refine wpAny_bind (wpAny_standAt (wpAny_bind (wpAny_holding ?_)))
  refine put_slice (a := a') (c := c') f1 f2 hne (Heap.IsSliceOf.new ..) pl pu (by omega) (by rw [List.size_toArray]; omega) (by rw [List.size_toArray,List.size_toArray]; omega) ?_
  refine wpAny_release ⟨σ,_,I4.lset (its' := its.take a' ++ its2 ++ its.drop c') (t' := _) e1 f1 ?_ (Vals.append (Vals.append (r.take _) r2) (r.drop _)) ?_,q⟩
  · show its.toArray.extract 0 a' ++ its2.toArray ++ its.toArray.extract (min c' its.toArray.size) its.toArray.size = _
    rw [splice_eq,List.size_toArray]
    congr 2
    rcases Nat.le_total c' its.length with hc | hc
    · rw [Nat.min_eq_left hc]
    · rw [Nat.min_eq_right hc,List.drop_of_length_le (Nat.le_refl _),List.drop_of_length_le hc]
  · rw [List.length_append,List.length_append,List.length_take,List.length_drop]
    omega
end
end L2
local macro_rules | `(tactic| walk_at "bt") => `(tactic| first
  | assumption
  | (apply L2.bits_mul <;> walk_at "bt")
  | (apply L2.bits_add2 <;> walk_at "bt")
  | (apply L2.bits_sub2 <;> walk_at "bt")
  | (apply L2.bits_neg; walk_at "bt")
  | (apply L2.bits_abs; walk_at "bt")
  | exact L2.bits_lit)
local macro_rules | `(tactic| walk_at "bl") => `(tactic| (apply L2.bits_of_le; (walk_at "bt"); decide))
local macro_rules | `(tactic| walk_at "cm") => `(tactic| first
  | exact L2.CM.l ⟨by decide,by decide⟩
  | exact L2.CM.r ⟨by decide,by decide⟩
  | (apply L2.CM.of; (walk_at "bt"); (walk_at "bt"); decide))
local macro_rules | `(tactic| walk_at "at") => `(tactic| first
  | assumption
  | exact L2.upd_same
  | (refine L2.Same.at (by assumption) ?_; walk_at "at")
  | (refine L2.SameT.at (by assumption) ?_; walk_at "at"))
local macro_rules | `(tactic| walk_at "sm") => `(tactic| first
  | assumption
  | exact L2.Same.rfl'
  | (refine L2.Same.trans ?_ (by assumption); walk_at "sm"))
local macro_rules | `(tactic| walk_at "kn") => `(tactic| first
  | assumption
  | exact ⟨_,.int _⟩ | exact ⟨_,.bl _⟩ | exact ⟨_,.str _⟩ | exact ⟨_,.non⟩
  | exact ⟨_,.tup (by walk_at "at")⟩ | exact ⟨_,.lst (by walk_at "at")⟩ | exact ⟨_,.dict (by walk_at "at")⟩)
local macro_rules | `(tactic| walk_at "nice") => `(tactic| first
  | exact L2.nice_int | exact L2.nice_bool | exact L2.nice_tuple | exact L2.nice_list | exact L2.nice_str)
local macro_rules | `(tactic| walk_at "th") => `(tactic| first
  | assumption
  | exact Sp1.th_flat .non (fun p e => nomatch e) | exact Sp1.th_flat (.int _) (fun p e => nomatch e) | exact Sp1.th_flat (.bl _) (fun p e => nomatch e) | exact Sp1.th_flat (.str _) (fun p e => nomatch e)
  | exact Sp1.th_lst (by walk_at "at")
  | (refine' Sp1.th_tup ?hat ?hkn; (case hat => walk_at "at"); (case hkn => (simp only [List.mem_cons,List.not_mem_nil,or_false,forall_eq_or_imp,forall_eq,false_imp_iff,implies_true]; (try (first | (walk_at "kn") | (repeat' apply And.intro) <;> walk_at "kn")))))
  )
local macro_rules | `(tactic| walk_at "r1") => `(tactic| first
  | (refine ⟨_,rfl,?_⟩)
  | (refine ⟨_,_,rfl,rfl,?_⟩)
  | (refine' ⟨_,_,_,_,rfl,rfl,L2.SqT.of ?hat,?hix,?nxt⟩; (case hat => walk_at "at"); (case hix => exact rfl))
  | (refine' ⟨_,_,_,_,rfl,rfl,L2.SqL.of ?hat,?hix,?nxt⟩; (case hat => walk_at "at"); (case hix => exact rfl))
  | (refine ⟨by walk_at "cm",?_⟩)
  | (refine ⟨(by show (0 : Int) < _; decide),?_⟩)
  | (refine ⟨⟨by decide,by decide⟩,?_⟩)
  | (refine ⟨⟨by decide,by decide,by decide⟩,?_⟩)
  | (refine ⟨Sp1.sz (by simp),fun _ _ _ _ _ => ?_⟩)
  | (refine ⟨Sp1.sz (by simp),L2.alloc fun _ _ _ _ => ?_⟩)
  | (refine' ⟨_,_,_,_,rfl,rfl,?hat,?hbt,Sp1.sz ?hsz,fun _ _ _ _ _ => ?nxt⟩; (case hat => walk_at "at"); (case hbt => walk_at "at"); (case hsz => simp))
  | (refine' ⟨_,_,_,_,rfl,rfl,?hat,?hbt,Sp1.sz ?hsz,L2.alloc fun _ _ _ _ => ?nxt⟩; (case hat => walk_at "at"); (case hbt => walk_at "at"); (case hsz => simp))
  | (refine' ⟨_,_,rfl,.inl (L2.SqL.of ?hat),?nxt⟩; (case hat => walk_at "at"))
  | (refine' ⟨_,_,rfl,.inr (L2.SqT.of ?hat),?nxt⟩; (case hat => walk_at "at"))
  | (refine' L2.alloc fun _ _ _ _ => ?nxt))
local macro_rules | `(tactic| walk_at "rd") => `(tactic| repeat (walk_at "r1"))
namespace K59
open PySem PySem.Spec L2 Mth Sp1 Sp2 Sp3 Sp7 Dr
def top (i : Nat) : Stmt := PySem.Challenge.pw_oneleash_k59_papers_written_and_read.main.body.getD i (.Pass ⟨0,0,0,0⟩)
structure Txt (mg : Str → Option Value) : Prop where
  z_ValueError : mg "ValueError" = none
  z_abs : mg "abs" = none
  z_all : mg "all" = none
  z_bool : mg "bool" = none
  z_enumerate : mg "enumerate" = none
  z_int : mg "int" = none
  z_isinstance : mg "isinstance" = none
  z_len : mg "len" = none
  z_list : mg "list" = none
  z_max : mg "max" = none
  z_min : mg "min" = none
  z_range : mg "range" = none
  z_reversed : mg "reversed" = none
  z_str : mg "str" = none
  z_tuple : mg "tuple" = none
section
variable {P : Program} {w : World} {K : PySem.W.Frag} {mg : Str → Option Value} {base : Heap}
theorem S_is_whole : FnScope ["thing"] ["thing"] (defScope (top 10)) := ⟨rfl,rfl,rfl,by decide +kernel,rfl,by decide +kernel,by decide +kernel⟩
theorem fn_is_whole (D_is_whole : Df K mg "is_whole" (top 10)) (T : Txt mg) : Fn P w K mg base "is_whole" ["thing"] 1 spWhole := by
  refine D_is_whole.fn S_is_whole (fun _ _ _ _ _ _ us hl => match us,hl with | [_],_ => rfl) (fun vs H Q E h => ?_) (fun f cdv A outer s H vs Q E hr h => ?_)
  · obtain ⟨x,t,rfl,_⟩ := h
    rfl
  · obtain ⟨x,t,rfl,k,q⟩ := h
    refine ⟨_,(pss_one (ps_ret (pe_and (pe_callB call_isinst (by rfl) T.z_isinstance bt_isinstance (pa_cons (pv 0) (pa_cons (pe_ty T.z_int bt_int) pa_nil))) (pe_one (pe_not (pe_callB call_isinst (by rfl) T.z_isinstance bt_isinstance (pa_cons (pv 0) (pa_cons (pe_ty T.z_bool bt_bool) pa_nil)))))))),?_⟩
    refine ⟨_,rfl,x,t,"int",rfl,k,.inl rfl,_,rfl,?_⟩
    refine ite3 (fun hc => ?_) (fun hc => ?_)
    · refine ⟨_,rfl,x,t,"bool",rfl,k,.inr (.inl rfl),_,rfl,?_⟩
      rw [(whole_sub k).1 hc]
      exact q
    · rw [(whole_sub k).2 hc] at q
      exact q
theorem S_common_divisor : FnScope ["one","other","rest"] ["one","other"] (defScope (top 11)) := ⟨rfl,rfl,rfl,by decide +kernel,rfl,by decide +kernel,by decide +kernel⟩
theorem fn_common_divisor (D_common_divisor : Df K mg "common_divisor" (top 11)) (T : Txt mg) : Fn P w K mg base "common_divisor" ["one","other"] 1 spGcd := by
  refine D_common_divisor.fn S_common_divisor (fun _ _ _ _ _ _ us hl => match us,hl with | [_,_],_ => rfl) (fun vs H Q E h => ?_) (fun f cdv A outer s H vs Q E hr h => ?_)
  · obtain ⟨a,b,rfl,_⟩ := h
    rfl
  · obtain ⟨a,b,rfl,q⟩ := h
    refine ⟨_,(pss_cons (ps_set (i := 0) S_common_divisor.nd rfl (Or.inl rfl) (pe_callB call_abs (by rfl) T.z_abs bt_abs (pa_cons (pv 0) pa_nil))) (pss_cons (ps_set (i := 1) S_common_divisor.nd rfl (Or.inl rfl) (pe_callB call_abs (by rfl) T.z_abs bt_abs (pa_cons (pv 1) pa_nil))) (pss_cons (ps_while PassesOwn.never (pt_cmpR op_ne (pv 1) pe_int (nomark _)) (pss_cons (ps_set (i := 2) S_common_divisor.nd rfl (Or.inl rfl) (pe_op op_mod (pv 0) (pv 1))) (pss_cons (ps_set (i := 0) S_common_divisor.nd rfl (Or.inl rfl) (pv 1)) (pss_one (ps_set (i := 1) S_common_divisor.nd rfl (Or.inl rfl) (pv 2)))))) (pss_one (ps_ret (pv 0)))))),?_⟩
    refine ⟨_,rfl,a,rfl,_,rfl,b,rfl,?_⟩
    refine while_by (fun σ H' => ∃ x y r,σ = [some (.int x),some (.int y),r] ∧ H' = H ∧ 0 ≤ x ∧ 0 ≤ y ∧ Int.gcd x y = Int.gcd a b)
      (fun σ _ => match σ with | [_,some (.int y),_] => y.toNat | _ => 0) ⟨_,_,_,rfl,rfl,abs_nonneg a,abs_nonneg b,by rw [gcd_abs,gcd_abs']⟩ ?_ ?_
    · rintro σ H' ⟨x,y,r,rfl,rfl,hx,hy,hg⟩
      refine ⟨_,rfl,rfl,_,rfl,?_⟩
      refine ite3 (fun hc => ?_) (fun hc => ?_)
      · have hy0 : ¬ y = 0 := by simpa using hc
        have hy1 : 0 < y := by omega
        refine ⟨_,rfl,_,rfl,x,y,rfl,rfl,hy1,_,rfl,_,rfl,⟨y,x % y,_,rfl,rfl,hy,Int.emod_nonneg _ hy0,?_⟩,?_⟩
        · rw [gcd_step hx hy1]
          exact hg
        · have h1 := Int.emod_lt_of_pos x hy1
          have h2 := Int.emod_nonneg x hy0
          show (x % y).toNat < y.toNat
          omega
      · have hy0 : y = 0 := by simpa using hc
        subst hy0
        refine ⟨_,rfl,?_⟩
        have e : (Int.gcd a b : Int) = x := by rw [← hg]; exact gcd_zero hx
        rw [e] at q
        exact q
    · rintro σ H' Q1 Q2 hq ⟨v,e,hs,k,ek,r⟩
      exact ⟨v,e,hs,k,ek,hq _ _ r⟩
theorem S_is_ratio : FnScope ["thing"] ["thing"] (defScope (top 12)) := ⟨rfl,rfl,rfl,by decide +kernel,rfl,by decide +kernel,by decide +kernel⟩
theorem fn_is_ratio (D_is_ratio : Df K mg "is_ratio" (top 12)) (F_is_whole : Fn P w K mg base "is_whole" ["thing"] 1 spWhole) (F_common_divisor : Fn P w K mg base "common_divisor" ["one","other"] 1 spGcd) (T : Txt mg) : Fn P w K mg base "is_ratio" ["thing"] 2 spLow := by
  refine D_is_ratio.fn S_is_ratio (fun _ _ _ _ _ _ us hl => match us,hl with | [_],_ => rfl) (fun vs H Q E h => ?_) (fun f cdv A outer s H vs Q E hr h => ?_)
  · obtain ⟨x,rfl,_⟩ := h
    rfl
  · obtain ⟨x,rfl,th,q⟩ := h
    obtain ⟨t,k⟩ := th.kn
    refine ⟨_,(pss_cons (ps_if (pw_or (pt_not (pt_val (pe_callB call_isinst (by rfl) T.z_isinstance bt_isinstance (pa_cons (pv 0) (pa_cons (pe_ty T.z_tuple bt_tuple) pa_nil))))) (pw_or1 (pt_cmpR op_ne (pe_callB call_len_seq (by rfl) T.z_len bt_len (pa_cons (pv 0) pa_nil)) pe_int (nomark _)))).pt (pss_one (ps_ret pe_bl)) pss_nil) (pss_cons (ps_if (pw_or (pt_not (pt_val (pe_fn F_is_whole (hr.mono (by decide)) (by rfl) (pa_cons (pe_ix ix_tup (pv 0) pe_int (fun _ _ => rfl)) pa_nil)))) (pw_or1 (pt_not (pt_val (pe_fn F_is_whole (hr.mono (by decide)) (by rfl) (pa_cons (pe_ix ix_tup (pv 0) pe_int (fun _ _ => rfl)) pa_nil)))))).pt (pss_one (ps_ret pe_bl)) pss_nil) (pss_one (ps_ret (pe_and (pe_cmpR op_ge (pe_ix ix_tup (pv 0) pe_int (fun _ _ => rfl)) pe_int (nomark _)) (pe_one (pe_cmpR op_eq (pe_fn F_common_divisor (hr.mono (by decide)) (by rfl) (pa_cons (pe_ix ix_tup (pv 0) pe_int (fun _ _ => rfl)) (pa_cons (pe_ix ix_tup (pv 0) pe_int (fun _ _ => rfl)) pa_nil))) pe_int (nomark _)))))))),?_⟩
    refine ⟨_,rfl,x,t,"tuple",rfl,k,.inr (.inr (.inl rfl)),_,rfl,?_⟩
    rcases Kn.cases_tup k with ⟨p,xs,rfl,e,rfl⟩ | ⟨hl,hs⟩
    · -- a tuple
      rw [lowV_tup e] at q
      refine iteF ?_
      refine ⟨_,rfl,p,xs,rfl,.inr (SqT.of e),rfl,_,rfl,?_⟩
      refine ite3 (fun hc => ?_) (fun hc => ?_)
      · have hn : xs.length ≠ 2 := by
          intro z
          rw [z] at hc
          exact absurd hc (by decide)
        rw [lowL_len hn] at q
        exact q
      · have hn : xs.length = 2 := by
          have z : (xs.length : Int) = 2 := by simpa using hc
          omega
        match xs,hn,e,q with
        | [y,z],_,e,q =>
          obtain ⟨ty,ky⟩ := th.parts p _ rfl e y (by simp)
          obtain ⟨tz,kz⟩ := th.parts p _ rfl e z (by simp)
          refine ⟨_,rfl,p,_,_,_,rfl,rfl,SqT.of e,rfl,y,ty,rfl,ky,_,rfl,?_⟩
          rcases Kn.cases_int ky with ⟨a,rfl,rfl⟩ | ⟨ny,ey⟩
          · refine iteF ?_
            refine ⟨_,rfl,p,_,_,_,rfl,rfl,SqT.of e,rfl,z,tz,rfl,kz,_,rfl,?_⟩
            rcases Kn.cases_int kz with ⟨b,rfl,rfl⟩ | ⟨nz,ez⟩
            · refine iteF ?_
              refine ⟨_,rfl,p,_,_,_,rfl,rfl,SqT.of e,rfl,b,1,rfl,rfl,_,rfl,?_⟩
              have q' : Q (.bl (lowB a b)) H := q
              unfold lowB at q'
              refine ite3 (fun hc => ?_) (fun hc => ?_)
              · refine ⟨_,rfl,p,_,_,_,rfl,rfl,SqT.of e,rfl,_,rfl,p,_,_,_,rfl,rfl,SqT.of e,rfl,a,b,rfl,rfl,?_⟩
                rw [hc,Bool.true_and] at q'
                have e1 : decide (V.int (Int.gcd a b : Int) = V.int 1) = decide (Int.gcd a b = 1) := by
                  rw [Bool.eq_iff_iff]
                  simp
                  omega
                rw [← e1] at q'
                exact q'
              · rw [hc,Bool.false_and] at q'
                exact q'
            · rw [ez,lowL_snd nz] at *
              exact q
          · rw [ey,lowL_fst ny] at *
            exact q
    · rw [hs]
      rw [hl] at q
      exact q
def slash : Str := Str.ofString "/"
def showR (a b : Int) : Str := if b = 1 then num a else num a ++ slash ++ num b
def spShow : Sp := fun vs H Q _ => ∃ (p : Addr) (a b : Int),vs = [.ref p] ∧ H p = some (.tup [.int a,.int b]) ∧ (Dg a ∧ Dg b) ∧ Q (.str (showR a b)) H
theorem sz_num {n : Int} (h : Dg n) : (num n).length ≤ 4301 := num_len (by decide) h
theorem line_sz {n : Nat} (h : n ≤ 100000) : n ≤ sizeLine := by
  have : sizeLine = 16777216 := sizeLine_eq
  omega
def spReadW (C : Addr) : Sp := fun vs H Q E => ∃ x : Str,vs = [.str x] ∧ x.length ≤ 60000 ∧
  ((∃ n : Int,x = num n ∧ n.natAbs < 10 ^ 1000 ∧ ∀ H',Same H H' → Q (.int n) H') ∨ ((∀ n : Int,n.natAbs < 10 ^ 1000 → x ≠ num n) ∧ ∀ H',Same H H' → E (.ref C) none H'))
theorem S_show_ratio : FnScope ["a","top","bottom"] ["a"] (defScope (top 19)) := ⟨rfl,rfl,rfl,by decide +kernel,rfl,by decide +kernel,by decide +kernel⟩
theorem fn_show_ratio (D_show_ratio : Df K mg "show_ratio" (top 19)) (DG : Dig K) (T : Txt mg) : Fn P w K mg base "show_ratio" ["a"] 1 spShow := by
  refine D_show_ratio.fn S_show_ratio (fun _ _ _ _ _ _ us hl => match us,hl with | [_],_ => rfl) (fun vs H Q E h => ?_) (fun f cdv A outer s H vs Q E hr h => ?_)
  · obtain ⟨p,a,b,rfl,_⟩ := h
    rfl
  · obtain ⟨p,a,b,rfl,e,⟨da,db⟩,q⟩ := h
    refine ⟨_,(pss_cons (ps_set (i := 1) S_show_ratio.nd rfl (Or.inl rfl) (pe_ix ix_tup (pv 0) pe_int (fun _ _ => rfl))) (pss_cons (ps_set (i := 2) S_show_ratio.nd rfl (Or.inl rfl) (pe_ix ix_tup (pv 0) pe_int (fun _ _ => rfl))) (pss_one (ps_ret (pe_ifExp (pt_cmpR op_eq (pv 2) pe_int (nomark _)) (pe_callTy (call_strI (K := K) rfl DG rfl) (by rfl) T.z_str bt_str (pa_cons (pv 1) pa_nil)) (pe_join3 (pe_fmt (K := K) rfl DG rfl (pv 1)) pe_str (pe_fmt (K := K) rfl DG rfl (pv 2)))))))),?_⟩
    refine ⟨_,rfl,p,_,_,_,rfl,rfl,SqT.of e,rfl,?_⟩
    refine ⟨_,rfl,p,_,_,_,rfl,rfl,SqT.of e,rfl,?_⟩
    refine ⟨_,rfl,rfl,_,rfl,ite3 (fun h => ?_) (fun h => ?_)⟩
    · have h : b = 1 := by simpa using h
      refine ⟨_,rfl,a,rfl,da,?_⟩
      unfold showR at q
      rw [if_pos h] at q
      exact q
    · have h : ¬ b = 1 := by simpa using h
      unfold showR at q
      rw [if_neg h] at q
      have za := sz_num da
      have zb := sz_num db
      have zs : (Str.ofString "/").length = 1 := rfl
      refine ⟨_,rfl,.inl ⟨a,rfl,da,_,rfl,line_sz (by omega),_,rfl,line_sz (by omega),_,rfl,.inl ⟨b,rfl,db,_,rfl,line_sz (by omega),q⟩⟩⟩
theorem starts_one (x : Str) (c : Nat) : Txt.startswith x ⟨#[c]⟩ = true ↔ x.cps.toList[0]? = some c := by
  rw [← StrLaws.subAt_one]
  unfold Txt.startswith
  rw [Bool.and_eq_true,decide_eq_true_eq]
theorem starts_ex {x : Str} {c : Nat} : Txt.startswith x ⟨#[c]⟩ = true ↔ ∃ r,x.cps.toList = c :: r := by
  rw [starts_one]
  cases x.cps.toList with
  | nil => simp
  | cons a l => simp
theorem slice_from1 {x : Str} {c : Nat} {r : List Nat} (e : x.cps.toList = c :: r) : (Txt.slice x (some 1) none).cps.toList = r := by
  have hl := len_toList x
  rw [e,List.length_cons] at hl
  rw [PyProof.Rows.slice_from_eq (x := x) (i := 1) (b := x.length) (by decide) (by omega) rfl,e]
  show List.take ((x.length : Int) - 1).toNat r = r
  exact List.take_of_length_le (by omega)
def orAllScope (s : Stmt) : Scope := match s with
  | .If (.BoolOp _ [_,.UnaryOp _ (.Call _ [.ListComp _ _ sc _] _ _) _] _) _ _ _ => sc
  | _ => { kind := .function,names := [],isGenerator := false,isCoroutine := false }
theorem figs_cps : (Str.ofString "0123456789").cps.toList = [48,49,50,51,52,53,54,55,56,57] := by decide +kernel
theorem in_figs (c : Nat) : Txt.contains (Str.ofString "0123456789") ⟨#[c]⟩ = decide (48 ≤ c ∧ c ≤ 57) := by
  refine (StrLaws.found_one (Str.ofString "0123456789") c).trans ?_
  rw [figs_cps,decide_eq_decide]
  simp only [List.mem_cons,List.not_mem_nil,or_false]
  omega
theorem minus_one : Str.ofString "-" = ⟨#[45]⟩ := by decide +kernel
theorem S_read_whole : FnScope ["text","figures","number"] ["text"] (defScope (top 22)) := ⟨rfl,rfl,rfl,by decide +kernel,rfl,by decide +kernel,by decide +kernel⟩
theorem fn_read_whole {C : Addr} (D_read_whole : Df K mg "read_whole" (top 22)) (O_NoText : ExcC K mg "NoText" C) (DG : Dig K) (V_FIGURES : ∃ tk,mg "FIGURES" = some (.str (Str.ofString "0123456789") tk)) (V_MOST : ∃ tk,mg "MOST_FIGURES" = some (.int 1000 tk)) (T : Txt mg) : Fx P w K mg base "read_whole" ["text"] 2 [] (spReadW C) := by
  refine D_read_whole.fx S_read_whole (fun _ _ _ _ _ _ us hl => match us,hl with | [_],_ => rfl) (fun vs H Q E h => ?_) (fun f cdv A outer s H vs Q E hr h => ?_)
  · obtain ⟨x,rfl,_⟩ := h
    rfl
  · obtain ⟨x,rfl,hl,h⟩ := h
    obtain ⟨tF,G_FIGURES⟩ := V_FIGURES
    obtain ⟨tM,G_MOST_FIGURES⟩ := V_MOST
    have CN : CompN (cxOf (CXE P w) P w K mg base ["text","figures","number"] "read_whole" (defScope (top 22)) f cdv A outer s H E) (orAllScope ((defBody (top 22)).getD 1 (.Pass ⟨0,0,0,0⟩))) [] "sign" [] :=
      ⟨by rfl,rfl,by decide +kernel,by decide +kernel,rfl,(fun p hp => nomatch hp),by rfl,by decide +kernel,(fun p hp => nomatch hp),⟨rfl,rfl⟩,rfl⟩
    have no : (∀ n : Int,n.natAbs < 10 ^ 1000 → x ≠ num n) → ∀ H',Same H H' → E (.ref C) none H' := fun z H' s' => by
      rcases h with ⟨n,e,hn,_⟩ | ⟨_,k⟩
      · exact absurd e (z n hn)
      · exact k H' s'
    have R : ∃ u : TS,PSs (cxOf (CXE P w) P w K mg base ["text","figures","number"] "read_whole" (defScope (top 22)) f cdv A outer s H E) ((defBody (top 22)).drop 1) u ∧ ∀ (F : Str),F.cps.toList = figL x.cps.toList → F.length ≤ 60000 → u { nx := fun _ H' => Q .non H',rt := Q } [some (.str x),some (.str F),none] H := by
      refine ⟨_,(pss_cons (ps_if (pw_or (pt_not (pt_chain op_le op_le pe_int (pe_callB call_len_str (by rfl) T.z_len bt_len (pa_cons (pv 1) pa_nil)) (pe_glob (v := .int 1000) (by rfl) G_MOST_FIGURES ⟨_,rfl⟩))) (pw_or1 (pt_not (pt_val (pe_callB (call_all rfl) (by rfl) T.z_all bt_all (pa_cons (pe_compA rfl CN (pi_str (pv 1)) (fun fp s₀ H₀ => (pe_cmpR op_inS (pv 0) (pe_glob (v := .str (Str.ofString "0123456789")) (by rfl) G_FIGURES ⟨_,rfl⟩) (by rfl)))) pa_nil)))))).pt (pss_one (ps_raise O_NoText (by rfl))) pss_nil) (pss_cons (ps_set (i := 2) S_read_whole.nd rfl (Or.inl rfl) (pe_callTy (call_intS (K := K) rfl DG) (by rfl) T.z_int bt_int (pa_cons (pv 0) pa_nil))) (pss_cons (ps_if (pt_cmpR op_ne (pe_callTy (call_strI (K := K) rfl DG rfl) (by rfl) T.z_str bt_str (pa_cons (pv 2) pa_nil)) (pv 0) (nomark _)) (pss_one (ps_raise O_NoText (by rfl))) pss_nil) (pss_one (ps_ret (pv 2)))))),fun F hF hz => ?_⟩
      have lF := len_toList F
      have nf : ∀ n : Int,n.natAbs < 10 ^ 1000 → x = num n → F.cps.toList = digs n.natAbs := fun n hn e => by rw [hF,e,num_fig]
      refine ⟨_,rfl,F,rfl,line_sz (by omega),_,_,rfl,rfl,_,rfl,ite3 (fun c1 => ?_) (fun c1 => ?_)⟩
      rotate_left
      · refine ⟨_,rfl,iteT (no (fun n hn e => ?_) H (Same.refl _))⟩
        have z := nf n hn e
        have c1 : ¬ (1 : Int) ≤ (F.length : Int) := by simpa using c1
        refine digs_ne n.natAbs ?_
        rw [← z]
        exact List.length_eq_zero_iff.mp (by omega)
      have c1 : (1 : Int) ≤ (F.length : Int) := by simpa using c1
      refine ⟨_,_,rfl,rfl,_,rfl,ite3 (fun c2 => no (fun n hn e => ?_) H (Same.refl _)) (fun c2 => ?_)⟩
      · have c2 : ¬ (F.length : Int) ≤ 1000 := by simpa using c2
        have z := nf n hn e
        have := (digs_len (k := 1000) (by decide)).mpr hn
        rw [← z] at this
        omega
      have c2 : (F.length : Int) ≤ 1000 := by simpa using c2
      refine ⟨_,rfl,F,rfl,comp_sR (x := F) (by show F.length < _; omega) (fun i v H' => ∃ c,F.cps.toList[i]? = some c ∧ v = .bl (decide (48 ≤ c ∧ c ≤ 57))) (fun i v H H' _ z => z) ?_ ?_⟩
      · intro i c H2 Kc hc s2 kk
        refine ⟨_,rfl,_,_,rfl,rfl,kk _ _ (Same.refl _) ⟨c,hc,?_⟩⟩
        rw [in_figs]
      · intro l ys H2 nl s2 f2 hly hr
        have ey : ys = (F.cps.toList.map fun c => decide (48 ≤ c ∧ c ≤ 57)).map V.bl := by
          apply List.ext_getElem?
          intro i
          rw [List.map_map,List.getElem?_map]
          cases hy : ys[i]? with
          | none =>
            have : F.cps.toList.length ≤ i := by
              have := List.getElem?_eq_none_iff.mp hy
              have e9 : F.cps.size = F.cps.toList.length := by simp
              omega
            rw [List.getElem?_eq_none this]
            rfl
          | some y =>
            obtain ⟨c,hc,rfl⟩ := hr i y hy
            rw [hc]
            rfl
        subst ey
        refine ⟨l,_,rfl,SqL.of f2,_,rfl,ite3 (fun c3 => no (fun n hn e => ?_) H2 s2) (fun c3 => ?_)⟩
        · have z := nf n hn e
          have c3 : ((F.cps.toList.map fun c => decide (48 ≤ c ∧ c ≤ 57)).all id) = false := by simpa only [Bool.not_eq_true'] using c3
          rw [z,List.all_map] at c3
          have : (digs n.natAbs).all (id ∘ fun c => decide (48 ≤ c ∧ c ≤ 57)) = true := List.all_eq_true.mpr fun c hc => decide_eq_true (digs_all _ c hc)
          rw [this] at c3
          cases c3
        have c3 : ((F.cps.toList.map fun c => decide (48 ≤ c ∧ c ≤ 57)).all id) = true := by simpa only [Bool.not_eq_false'] using c3
        have ad : PySem.NumText.AllDigits (figL x.cps.toList) := fun c hc => by
          rw [← hF] at hc
          rw [List.all_map,List.all_eq_true] at c3
          exact of_decide_eq_true (c3 c hc)
        obtain ⟨v,hs,h43,it,hv,hu⟩ := whole_read (x := x) (k := 1000) ad (by rw [← hF]; intro z; rw [z] at lF; simp at lF; omega) (by rw [← hF]; omega) (by decide)
        refine ⟨_,rfl,x,v,rfl,hs,h43,it,?_⟩
        refine ⟨_,rfl,v,rfl,Dg.of hv (by decide),_,rfl,rfl,_,rfl,ite3 (fun c4 => no (fun n hn e => ?_) H2 s2) (fun c4 => ?_)⟩
        · have := hu n e
          subst this
          rw [e] at c4
          simp at c4
        · have c4 : num v = x := by simpa using c4
          refine ⟨_,rfl,?_⟩
          rcases h with ⟨n,e,hn,k⟩ | ⟨hno,_⟩
          · have := hu n e
            subst this
            exact k H2 s2
          · exact absurd c4.symm (hno v hv)
    obtain ⟨u,hu,rd⟩ := R
    refine ⟨_,(pss_cons (ps_set (i := 1) S_read_whole.nd rfl (Or.inl rfl) (pe_ifExp (pt_val (pe_bm PySem.F.plainAttrs_str PySem.F.slot_str_startswith PySem.F.type_str_startswith mt_startswith (pv 0) (pa_cons pe_str pa_nil))) (pe_slice sl_strS (pv 0) (po_some pe_int) po_none) (pv 0))) hu),?_⟩
    refine ⟨_,rfl,rfl,x,_,rfl,rfl,_,rfl,ite3 (fun h1 => ?_) (fun h1 => ?_)⟩
    · rw [minus_one] at h1
      obtain ⟨r,e⟩ := starts_ex.mp h1
      have es := slice_from1 e
      have l1 := len_toList (Txt.slice x (some 1) none)
      have l2 := len_toList x
      rw [es] at l1
      rw [e,List.length_cons] at l2
      refine ⟨_,rfl,_,rfl,x,rfl,line_sz (by omega),?_⟩
      exact rd _ (by rw [es,e]; rfl) (by omega)
    · refine ⟨_,rfl,rd x (figL_of fun r e => ?_).symm hl⟩
      rw [minus_one,starts_ex.mpr ⟨r,e⟩] at h1
      cases h1
theorem slash_one : slash = ⟨#[47]⟩ := by decide +kernel
theorem num_noslash (n : Int) : 47 ∉ (num n).cps.toList := fun h => by
  have := num_signs n 47 h
  omega
def parts (a b : Int) : List Int := if b = 1 then [a] else [a,b]
theorem showR_join (a b : Int) : showR a b = Str.join ⟨#[47]⟩ ((parts a b).map num) := by
  unfold showR parts
  split
  · rfl
  · rw [slash_one]
    rfl
theorem split_showR (a b : Int) : Txt.split (showR a b) (Str.ofString "/") = (parts a b).map num := by
  rw [showR_join]
  rw [show Str.ofString "/" = (⟨#[47]⟩ : Str) from slash_one]
  refine split_of ?_ ?_
  · unfold parts
    split <;> simp
  · intro q hq
    obtain ⟨n,_,rfl⟩ := List.mem_map.mp hq
    exact num_noslash n
theorem showR_len {a b : Int} (ha : a.natAbs < 10 ^ 1000) (hb : b.natAbs < 10 ^ 1000) : (showR a b).length ≤ 2010 := by
  have l1 := num_len (k := 1000) (by decide) ha
  have l2 := num_len (k := 1000) (by decide) hb
  have l3 : slash.length = 1 := rfl
  unfold showR
  split
  · omega
  · rw [Str.length_append,Str.length_append]
    omega
structure Wr (a b : Int) : Prop where
  low : Low a b
  top : a.natAbs < 10 ^ 1000
  bot : b.natAbs < 10 ^ 1000
theorem Wr.dg {a b : Int} (h : Wr a b) : Dg a ∧ Dg b := ⟨Dg.of h.top (by decide),Dg.of h.bot (by decide)⟩
theorem none_of_same {H H' : Hp} {t : Addr} (s : Same H H') (n : H' t = none) : H t = none := by
  cases e : H t with
  | none => rfl
  | some o =>
    rw [s _ _ e] at n
    cases n
theorem th_two {H : Hp} {p : Addr} {a b : Int} (e : H p = some (.tup [.int a,.int b])) : Thing H (.ref p) := ⟨⟨_,.tup e⟩,fun q xs e1 e2 y hy => by
  cases e1
  rw [e] at e2
  cases e2
  simp only [List.mem_cons,List.not_mem_nil,or_false] at hy
  rcases hy with rfl | rfl <;> exact ⟨_,.int _⟩⟩
theorem low_t {H : Hp} {p : Addr} {a b : Int} (e : H p = some (.tup [.int a,.int b])) (l : Low a b) : lowV H (.ref p) = true := by
  rw [lowV_two e]
  unfold lowB
  rw [decide_eq_true l.pos,decide_eq_true l.one]
  rfl
theorem gcd_step' {a b : Int} (hb : 0 < b) : Int.gcd b (a % b) = Int.gcd a b := by
  have e : a = a % b + a / b * b := by
    have := Int.emod_add_mul_ediv a b
    rw [Int.mul_comm] at this
    omega
  have h := Int.gcd_add_mul_right_right b (a % b) (a / b)
  rw [← e] at h
  rw [Int.gcd_comm a b,h]
def spDiv : Sp := fun vs H Q _ => ∃ a b : Int,vs = [.int a,.int b] ∧ 0 ≤ b ∧ Q (.int (Int.gcd a b : Int)) H
def spLRat : Sp := fun vs H Q _ => ∃ a b : Int,vs = [.int a,.int b] ∧ (0 < b ∧ bits b ≤ 2000) ∧ ∀ (p : Addr) (t u : Int) (H' : Hp),Frac a b t u → t = a / (Int.gcd a b : Int) → u = b / (Int.gcd a b : Int) → Same H H' → H' p = some (.tup [.int t,.int u]) → H p = none → Q (.ref p) H'
def spDrawn : Sp := fun vs H Q _ => ∃ (p : Addr) (k : Int),vs = [.ref p] ∧ Pot H p k ∧ k ≤ 800000 ∧ ∀ (r : Addr) (a b : Int) (H' : Hp),Low a b → a.natAbs < 10 ^ 60 → b.natAbs ≤ 10 ^ 60 → H' r = some (.tup [.int a,.int b]) → But p H H' → Pot H' p (k + 20) → Q (.ref r) H'
theorem S_law_begun : FnScope ["cell","rest"] ["cell"] (defScope (top 29)) := ⟨rfl,rfl,rfl,by decide +kernel,rfl,by decide +kernel,by decide +kernel⟩
theorem fn_law_begun (D_law_begun : Df K mg "_law_begun" (top 29)) (T : Txt mg) : Fn P w K mg base "_law_begun" ["cell"] 1 Dr.spBegun := by
  refine D_law_begun.fn S_law_begun (fun _ _ _ _ _ _ us hl => match us,hl with | [_],_ => rfl) (fun vs H Q E h => ?_) (fun f cdv A outer s H vs Q E hr h => ?_)
  · obtain ⟨c,rfl,_⟩ := h
    rfl
  · obtain ⟨c,rfl,q⟩ := h
    refine ⟨_,(pss_cons (ps_set (i := 1) S_law_begun.nd rfl (Or.inl rfl) pe_int) (pss_cons (ps_if (pt_cmpR op_ge (pe_callB call_abs (by rfl) T.z_abs bt_abs (pa_cons (pv 0) pa_nil)) (pe_op op_pow pe_int pe_int) (nomark _)) (pss_one (ps_set (i := 1) S_law_begun.nd rfl (Or.inl rfl) (pe_op op_add (pe_op op_sub (pe_callB call_abs (by rfl) T.z_abs bt_abs (pa_cons (pv 0) pa_nil)) (pe_op op_pow pe_int pe_int)) pe_int))) pss_nil) (pss_one (ps_ret (pe_lstA (pa_cons (pv 1) (pa_cons pe_int (pa_cons (pe_op op_mod (pv 0) pe_int) pa_nil)))))))),?_⟩
    refine ⟨_,rfl,_,rfl,_,_,rfl,rfl,⟨by decide,by decide,by decide⟩,_,_,rfl,rfl,_,rfl,ite3 (fun h1 => ?_) (fun h1 => ?_)⟩
    · refine ⟨_,rfl,_,rfl,_,_,rfl,rfl,⟨by decide,by decide,by decide⟩,_,_,rfl,rfl,_,_,rfl,rfl,?_⟩
      refine ⟨_,rfl,_,rfl,_,_,rfl,rfl,(by show (0 : Int) < 2147483647; decide),sz (by simp),fun p H2 s2 f2 n2 => ?_⟩
      exact q p H2 s2 n2 ⟨_,_,_,f2,Int.le_refl 0,Int.le_refl 0,Int.emod_nonneg _ (by decide),Int.emod_lt_of_pos _ (by decide)⟩
    · refine ⟨_,rfl,_,rfl,_,_,rfl,rfl,(by show (0 : Int) < 2147483647; decide),sz (by simp),fun p H2 s2 f2 n2 => ?_⟩
      exact q p H2 s2 n2 ⟨_,_,_,f2,Int.le_refl 0,Int.le_refl 0,Int.emod_nonneg _ (by decide),Int.emod_lt_of_pos _ (by decide)⟩
theorem S_law_take : FnScope ["pot","size","digit","mixed"] ["pot","size"] (defScope (top 30)) := ⟨rfl,rfl,rfl,by decide +kernel,rfl,by decide +kernel,by decide +kernel⟩
theorem fn_law_take (D_law_take : Df K mg "_law_take" (top 30)) : Fn P w K mg base "_law_take" ["pot","size"] 1 Dr.spTk := by
  refine D_law_take.fn S_law_take (fun _ _ _ _ _ _ us hl => match us,hl with | [_,_],_ => rfl) (fun vs H Q E h => ?_) (fun f cdv A outer s H vs Q E hr h => ?_)
  · obtain ⟨p,m,k,rfl,_⟩ := h
    rfl
  · obtain ⟨p,m,k,rfl,⟨a,b,c,e,hb0,hb1,hc0,hc1⟩,hk,⟨hm,bm⟩,q⟩ := h
    refine ⟨_,(pss_cons (ps_if (pt_cmpR op_gt (pe_ix ix_list (pv 0) pe_int (fun _ _ => rfl)) pe_int (nomark _)) (pss_cons (ps_set (i := 2) S_law_take.nd rfl (Or.inl rfl) (pe_op op_mod (pe_ix ix_list (pv 0) pe_int (fun _ _ => rfl)) (pv 1))) (pss_cons (ps_asg (pe_op op_fdivP (pe_ix ix_list (pv 0) pe_int (fun _ _ => rfl)) (pv 1)) (pg_sub (pv 0) pe_int set_listA)) (pss_one (ps_ret (pv 2))))) pss_nil) (pss_cons (ps_asg (pe_op op_add (pe_ix ix_list (pv 0) pe_int (fun _ _ => rfl)) pe_int) (pg_sub (pv 0) pe_int set_listA)) (pss_cons (ps_set (i := 3) S_law_take.nd rfl (Or.inl rfl) (pe_op op_mod (pe_op op_add (pe_op op_add (pe_op op_add (pe_ix ix_list (pv 0) pe_int (fun _ _ => rfl)) (pe_op op_mulX (pe_op op_mulX pe_int (pe_ix ix_list (pv 0) pe_int (fun _ _ => rfl))) (pe_ix ix_list (pv 0) pe_int (fun _ _ => rfl)))) (pe_op op_mulX pe_int (pe_ix ix_list (pv 0) pe_int (fun _ _ => rfl)))) pe_int) pe_int)) (pss_cons (ps_set (i := 3) S_law_take.nd rfl (Or.inl rfl) (pe_op op_mod (pe_op op_mulX (pe_op op_mod (pe_op op_mulX (pv 3) (pv 3)) pe_int) pe_int) pe_int)) (pss_one (ps_ret (pe_op op_mod (pe_op op_fdivP (pv 3) pe_int) (pv 1)))))))),?_⟩
    refine ⟨_,rfl,p,_,_,_,rfl,rfl,SqL.of e,rfl,_,_,rfl,rfl,_,rfl,ite3 (fun h1 => ?_) (fun h1 => ?_)⟩
    · refine ⟨_,rfl,p,_,_,_,rfl,rfl,SqL.of e,rfl,_,rfl,_,_,rfl,rfl,hm,?_⟩
      refine ⟨_,rfl,p,_,_,_,rfl,rfl,SqL.of e,rfl,_,rfl,_,_,rfl,rfl,⟨hm,bm⟩,_,rfl,p,_,_,0,rfl,rfl,e,rfl,fun H2 u => ?_⟩
      exact ⟨_,rfl,q _ _ (Int.emod_nonneg _ (by omega)) (Int.emod_lt_of_pos _ hm) (fun b o nb e => u.at nb e) ⟨_,_,_,u.now,hb0,by omega,hc0,hc1⟩⟩
    · have e64 : (2 : Int) ^ 64 = 18446744073709551616 := by decide
      refine ⟨_,rfl,p,_,_,_,rfl,rfl,SqL.of e,rfl,_,_,rfl,rfl,_,rfl,p,_,_,1,rfl,rfl,e,rfl,fun H2 u => ?_⟩
      have e2 : H2 p = some (.lst [.int a,.int (b + 1),.int c]) := u.now
      refine ⟨_,rfl,p,_,_,_,rfl,rfl,SqL.of e2,rfl,_,rfl,p,_,_,_,rfl,rfl,SqL.of e2,rfl,_,_,rfl,rfl,CM.l ⟨by decide,by decide⟩,_,rfl,p,_,_,_,rfl,rfl,SqL.of e2,rfl,_,_,rfl,rfl,CM.l (by rw [e64]; omega),_,_,rfl,rfl,_,rfl,p,_,_,_,rfl,rfl,SqL.of e2,rfl,_,_,rfl,rfl,CM.l ⟨by decide,by decide⟩,_,_,rfl,rfl,_,_,rfl,rfl,_,_,rfl,rfl,(by show (0 : Int) < 2147483647; decide),?_⟩
      have r0 := Int.emod_nonneg (c + 977 * (b + 1) * (b + 1) + 40693 * (b + 1) + 1) (show (2147483647 : Int) ≠ 0 by decide)
      have r1 := Int.emod_lt_of_pos (c + 977 * (b + 1) * (b + 1) + 40693 * (b + 1) + 1) (show (0 : Int) < 2147483647 by decide)
      refine ⟨_,rfl,_,rfl,_,_,rfl,rfl,CM.l (by rw [e64]; omega),_,_,rfl,rfl,(by show (0 : Int) < 1000000007; decide),_,_,rfl,rfl,CM.r ⟨by decide,by decide⟩,_,_,rfl,rfl,(by show (0 : Int) < 998244353; decide),?_⟩
      refine ⟨_,rfl,_,_,rfl,rfl,⟨by decide,by decide⟩,_,rfl,_,_,rfl,rfl,hm,?_⟩
      exact q _ _ (Int.emod_nonneg _ (by omega)) (Int.emod_lt_of_pos _ hm) (fun b o nb e => u.at nb e) ⟨_,_,_,u.now,by omega,by omega,hc0,hc1⟩
theorem S_law_wide : FnScope ["pot","size","number","turn"] ["pot","size"] (defScope (top 31)) := ⟨rfl,rfl,rfl,by decide +kernel,rfl,by decide +kernel,by decide +kernel⟩
theorem fn_law_wide (D_law_wide : Df K mg "_law_wide" (top 31)) (F_law_take : Fn P w K mg base "_law_take" ["pot","size"] 1 Dr.spTk) (T : Txt mg) : Fn P w K mg base "_law_wide" ["pot","size"] 2 Dr.spWd := by
  refine D_law_wide.fn S_law_wide (fun _ _ _ _ _ _ us hl => match us,hl with | [_,_],_ => rfl) (fun vs H Q E h => ?_) (fun f cdv A outer s H vs Q E hr h => ?_)
  · obtain ⟨p,m,k,rfl,_⟩ := h
    rfl
  · obtain ⟨p,m,k,rfl,pt,hk,⟨hm,bm⟩,q⟩ := h
    refine ⟨_,(pss_cons (ps_if (pw_or (pt_cmpR op_gt (pe_ix ix_list (pv 0) pe_int (fun _ _ => rfl)) pe_int (nomark _)) (pw_or1 (pt_cmpR op_lt (pv 1) (pe_op op_pow pe_int pe_int) (nomark _)))).pt (pss_one (ps_ret (pe_fn F_law_take (hr.mono (by decide)) (by rfl) (pa_cons (pv 0) (pa_cons (pv 1) pa_nil))))) pss_nil) (pss_cons (ps_set (i := 2) S_law_wide.nd rfl (Or.inl rfl) pe_int) (pss_cons (ps_for PassesOwn.never rfl (pi_range1 rfl T.z_range (pa_cons pe_int pa_nil)) (pg_name (i := 3) S_law_wide.nd rfl (Or.inl rfl)) (pss_one (ps_set (i := 2) S_law_wide.nd rfl (Or.inl rfl) (pe_op op_add (pe_op op_mulX (pv 2) pe_int) (pe_fn F_law_take (hr.mono (by decide)) (by rfl) (pa_cons (pv 0) (pa_cons pe_int pa_nil))))))) (pss_one (ps_ret (pe_op op_mod (pv 2) (pv 1))))))),?_⟩
    obtain ⟨a,b,c,e,rest⟩ := id pt
    have tk : ∀ H1,H1 = H → spTk [.ref p,.int m] H1 Q E0 := fun H1 e1 => by
      subst e1
      exact ⟨p,m,k,rfl,pt,by omega,⟨hm,bm⟩,fun r H2 h0 h1 b2 p2 => q r H2 h0 h1 b2 (p2.mono (by omega))⟩
    refine ⟨_,rfl,p,_,_,_,rfl,rfl,SqL.of e,rfl,_,_,rfl,rfl,_,rfl,ite3 (fun h1 => ?_) (fun h1 => ?_)⟩
    · exact ⟨_,rfl,_,rfl,tk _ rfl⟩
    refine ⟨_,rfl,_,_,rfl,rfl,⟨by decide,by decide,by decide⟩,_,_,rfl,rfl,_,rfl,ite3 (fun h2 => ?_) (fun h2 => ?_)⟩
    · exact ⟨_,rfl,_,rfl,tk _ rfl⟩
    refine ⟨4,rfl,by decide,by decide,for_range (n := 4) (lo := 0) (fun i σ H2 => ∃ (n : Int) (z : Option V),σ = [some (.ref p),some (.int m),some (.int n),z] ∧ But p H H2 ∧ Pot H2 p (k + (i : Int))) ⟨_,_,rfl,But.refl,by simpa using pt⟩ ?_ ?_⟩
    · rintro i σ H2 hi ⟨n,z,rfl,b2,p2⟩
      refine ⟨_,rfl,_,_,rfl,rfl,CM.r ⟨by decide,by decide⟩,_,rfl,p,_,_,rfl,p2,by omega,⟨by decide,by decide⟩,fun r H3 h0 h1 b3 p3 => ⟨_,_,rfl,rfl,_,_,rfl,b2.trans b3,p3.mono (by omega)⟩⟩
    · rintro σ H2 ⟨n,z,rfl,b2,p2⟩
      exact ⟨_,rfl,_,rfl,_,_,rfl,rfl,hm,q _ _ (Int.emod_nonneg _ (by omega)) (Int.emod_lt_of_pos _ hm) b2 p2⟩
theorem S_law_divisor : FnScope ["one","other"] ["one","other"] (defScope (top 32)) := ⟨rfl,rfl,rfl,by decide +kernel,rfl,by decide +kernel,by decide +kernel⟩
theorem fn_law_divisor (D_law_divisor : Df K mg "_law_divisor" (top 32)) (T : Txt mg) : Fn P w K mg base "_law_divisor" ["one","other"] 1 spDiv := by
  refine D_law_divisor.fn S_law_divisor (fun _ _ _ _ _ _ us hl => match us,hl with | [_,_],_ => rfl) (fun vs H Q E h => ?_) (fun f cdv A outer s H vs Q E hr h => ?_)
  · obtain ⟨a,b,rfl,_⟩ := h
    rfl
  · obtain ⟨a,b,rfl,hb,q⟩ := h
    refine ⟨_,(pss_cons (ps_while PassesOwn.never (pt_cmpR op_ne (pv 1) pe_int (nomark _)) (pss_one (ps_par (i := 0) (j := 1) rfl S_law_divisor.nd rfl rfl (by decide) rfl rfl (pa_cons (pv 1) (pa_cons (pe_op op_mod (pv 0) (pv 1)) pa_nil)) (by rfl)))) (pss_one (ps_ret (pe_callB call_abs (by rfl) T.z_abs bt_abs (pa_cons (pv 0) pa_nil))))),?_⟩
    refine while_by (fun σ H' => ∃ x y : Int,σ = [some (.int x),some (.int y)] ∧ H' = H ∧ 0 ≤ y ∧ Int.gcd x y = Int.gcd a b)
      (fun σ _ => match σ with | [_,some (.int y)] => y.toNat | _ => 0) ⟨_,_,rfl,rfl,hb,rfl⟩ ?_ ?_
    · rintro σ H' ⟨x,y,rfl,rfl,hy,hg⟩
      refine ⟨_,rfl,rfl,_,rfl,?_⟩
      refine ite3 (fun hc => ?_) (fun hc => ?_)
      · have hy0 : ¬ y = 0 := by simpa using hc
        have hy1 : 0 < y := by omega
        refine ⟨_,rfl,_,rfl,_,rfl,x,y,rfl,rfl,hy1,_,_,rfl,⟨y,x % y,rfl,rfl,Int.emod_nonneg _ hy0,?_⟩,?_⟩
        · rw [gcd_step' hy1]
          exact hg
        · have h1 := Int.emod_lt_of_pos x hy1
          have h2 := Int.emod_nonneg x hy0
          show (x % y).toNat < y.toNat
          omega
      · have hy0 : y = 0 := by simpa using hc
        subst hy0
        refine ⟨_,rfl,x,rfl,?_⟩
        have e : (Int.gcd a b : Int) = (if x < 0 then -x else x) := by rw [← hg,Int.gcd_zero]; split <;> omega
        rw [e] at q
        exact q
    · rintro σ H' Q1 Q2 hq ⟨v,e,hs,k,ek,r⟩
      exact ⟨v,e,hs,k,ek,hq _ _ r⟩
theorem S_law_ratio : FnScope ["top","bottom","by"] ["top","bottom"] (defScope (top 33)) := ⟨rfl,rfl,rfl,by decide +kernel,rfl,by decide +kernel,by decide +kernel⟩
theorem fn_law_ratio (D_law_ratio : Df K mg "_law_ratio" (top 33)) (F_law_divisor : Fn P w K mg base "_law_divisor" ["one","other"] 1 spDiv) : Fn P w K mg base "_law_ratio" ["top","bottom"] 2 spLRat := by
  refine D_law_ratio.fn S_law_ratio (fun _ _ _ _ _ _ us hl => match us,hl with | [_,_],_ => rfl) (fun vs H Q E h => ?_) (fun f cdv A outer s H vs Q E hr h => ?_)
  · obtain ⟨a,b,rfl,_⟩ := h
    rfl
  · obtain ⟨a,b,rfl,⟨hb,bb⟩,q⟩ := h
    refine ⟨_,(pss_cons (ps_set (i := 2) S_law_ratio.nd rfl (Or.inl rfl) (pe_fn F_law_divisor (hr.mono (by decide)) (by rfl) (pa_cons (pv 0) (pa_cons (pv 1) pa_nil)))) (pss_one (ps_ret (pe_tupA (pa_cons (pe_op op_fdivP (pv 0) (pv 2)) (pa_cons (pe_op op_fdivP (pv 1) (pv 2)) pa_nil)))))),?_⟩
    refine ⟨_,rfl,_,rfl,a,b,rfl,by omega,?_⟩
    have hg := gcd_pos (a := a) (b := b) (by omega)
    have bg : bits (Int.gcd a b : Int) ≤ 8000 := bits_le (gcd_bits2 (by omega) bb) (by decide)
    refine ⟨_,rfl,_,rfl,_,_,rfl,rfl,⟨hg,bg⟩,_,rfl,_,rfl,_,_,rfl,rfl,⟨hg,bg⟩,sz (by simp),fun p H1 s1 f1 n1 => ?_⟩
    exact q p _ _ H1 (frac_pos hb) rfl rfl s1 f1 n1
theorem S_law_shown : FnScope ["a"] ["a"] (defScope (top 37)) := ⟨rfl,rfl,rfl,by decide +kernel,rfl,by decide +kernel,by decide +kernel⟩
theorem fn_law_shown (D_law_shown : Df K mg "_law_shown" (top 37)) (DG : Dig K) (T : Txt mg) : Fn P w K mg base "_law_shown" ["a"] 1 spShow := by
  refine D_law_shown.fn S_law_shown (fun _ _ _ _ _ _ us hl => match us,hl with | [_],_ => rfl) (fun vs H Q E h => ?_) (fun f cdv A outer s H vs Q E hr h => ?_)
  · obtain ⟨p,a,b,rfl,_⟩ := h
    rfl
  · obtain ⟨p,a,b,rfl,e,⟨da,db⟩,q⟩ := h
    refine ⟨_,(pss_cons (ps_if (pt_cmpR op_eq (pe_ix ix_tup (pv 0) pe_int (fun _ _ => rfl)) pe_int (nomark _)) (pss_one (ps_ret (pe_callTy (call_strI (K := K) rfl DG rfl) (by rfl) T.z_str bt_str (pa_cons (pe_ix ix_tup (pv 0) pe_int (fun _ _ => rfl)) pa_nil)))) pss_nil) (pss_one (ps_ret (pe_op op_add_str (pe_op op_add_str (pe_callTy (call_strI (K := K) rfl DG rfl) (by rfl) T.z_str bt_str (pa_cons (pe_ix ix_tup (pv 0) pe_int (fun _ _ => rfl)) pa_nil)) pe_str) (pe_callTy (call_strI (K := K) rfl DG rfl) (by rfl) T.z_str bt_str (pa_cons (pe_ix ix_tup (pv 0) pe_int (fun _ _ => rfl)) pa_nil)))))),?_⟩
    have za := sz_num da
    have zb := sz_num db
    have zs : (Str.ofString "/").length = 1 := rfl
    refine ⟨_,rfl,p,_,_,_,rfl,rfl,SqT.of e,rfl,rfl,_,rfl,ite3 (fun h => ?_) (fun h => ?_)⟩
    · have h : b = 1 := by simpa using h
      unfold showR at q
      rw [if_pos h] at q
      exact ⟨_,rfl,p,_,_,_,rfl,rfl,SqT.of e,rfl,a,rfl,da,q⟩
    · have h : ¬ b = 1 := by simpa using h
      unfold showR at q
      rw [if_neg h] at q
      refine ⟨_,rfl,p,_,_,_,rfl,rfl,SqT.of e,rfl,a,rfl,da,_,_,rfl,rfl,line_sz (by omega),?_⟩
      exact ⟨_,rfl,p,_,_,_,rfl,rfl,SqT.of e,rfl,b,rfl,db,_,_,rfl,rfl,line_sz (by rw [Str.length_append]; omega),q⟩
theorem e60 : (10 : Int) ^ (60 : Int).toNat - 1 = 999999999999999999999999999999999999999999999999999999999999 := by decide +kernel
theorem b60 {z : Int} (h0 : 0 ≤ z) (h1 : z ≤ 1000000000000000000000000000000000000000000000000000000000000) : bits z ≤ 200 := bits_of (n := 200) (by show _ < 1606938044258990275541962092341162602522202993782792835301376; omega)
theorem abs_ediv {a g : Int} (_ : 0 < g) : (a / g).natAbs ≤ a.natAbs := Int.natAbs_ediv_le_natAbs a g
theorem S_law_drawn : FnScope ["pot","span","top"] ["pot"] (defScope (top 39)) := ⟨rfl,rfl,rfl,by decide +kernel,rfl,by decide +kernel,by decide +kernel⟩
theorem fn_law_drawn (D_law_drawn : Df K mg "_law_drawn" (top 39)) (F_law_take : Fn P w K mg base "_law_take" ["pot","size"] 1 Dr.spTk) (F_law_wide : Fn P w K mg base "_law_wide" ["pot","size"] 2 Dr.spWd) (F_law_ratio : Fn P w K mg base "_law_ratio" ["top","bottom"] 2 spLRat) (T : Txt mg) : Fn P w K mg base "_law_drawn" ["pot"] 3 spDrawn := by
  refine D_law_drawn.fn S_law_drawn (fun _ _ _ _ _ _ us hl => match us,hl with | [_],_ => rfl) (fun vs H Q E h => ?_) (fun f cdv A outer s H vs Q E hr h => ?_)
  · obtain ⟨p,k,rfl,_⟩ := h
    rfl
  · obtain ⟨p,k,rfl,p0,hk,q⟩ := h
    refine ⟨_,(pss_cons (ps_set (i := 1) S_law_drawn.nd rfl (Or.inl rfl) (pe_ix ix_list (pe_lstA (pa_cons pe_int (pa_cons pe_int (pa_cons pe_int (pa_cons (pe_op op_sub (pe_op op_pow pe_int pe_int) pe_int) pa_nil))))) (pe_fn F_law_take (hr.mono (by decide)) (by rfl) (pa_cons (pv 0) (pa_cons pe_int pa_nil))) (fun _ _ => rfl))) (pss_cons (ps_set (i := 2) S_law_drawn.nd rfl (Or.inl rfl) (pe_op op_mulX (pe_fn F_law_wide (hr.mono (by decide)) (by rfl) (pa_cons (pv 0) (pa_cons (pv 1) pa_nil))) (pe_op op_sub pe_int (pe_op op_mulX pe_int (pe_fn F_law_take (hr.mono (by decide)) (by rfl) (pa_cons (pv 0) (pa_cons pe_int pa_nil))))))) (pss_one (ps_ret (pe_fn F_law_ratio (hr.mono (by decide)) (by rfl) (pa_cons (pv 2) (pa_cons (pe_op op_add pe_int (pe_fn F_law_wide (hr.mono (by decide)) (by rfl) (pa_cons (pv 0) (pa_cons (pe_ix ix_list (pe_lstA (pa_cons pe_int (pa_cons pe_int (pa_cons pe_int (pa_cons (pe_op op_sub (pe_op op_pow pe_int pe_int) pe_int) pa_nil))))) (pe_fn F_law_take (hr.mono (by decide)) (by rfl) (pa_cons (pv 0) (pa_cons pe_int pa_nil))) (fun _ _ => rfl)) pa_nil)))) pa_nil))))))),?_⟩
    refine ⟨_,_,rfl,rfl,⟨by decide,by decide,by decide⟩,_,_,rfl,rfl,sz (by simp),fun l1 H1 s1 f1 n1 => ?_⟩
    have np1 := Pot.ne p0 n1
    have p1 := p0.same s1
    refine ⟨_,rfl,p,_,_,rfl,p1,by omega,⟨by decide,by decide⟩,fun r2 H2 a2 b2' b2 p2 => ?_⟩
    refine menuI (fun m => 1 ≤ m ∧ m ≤ 999999999999999999999999999999999999999999999999999999999999) (b2 _ _ np1 f1) a2 (by simpa using b2') (fun v hv => ?_) fun S2 hS2 => ?_
    · simp only [List.mem_cons,List.not_mem_nil,or_false] at hv
      rcases hv with rfl | rfl | rfl | rfl
      · exact ⟨_,rfl,by decide,by decide⟩
      · exact ⟨_,rfl,by decide,by decide⟩
      · exact ⟨_,rfl,by decide,by decide⟩
      · exact ⟨_,rfl,by rw [e60]; decide,by rw [e60]; decide⟩
    refine ⟨_,rfl,_,rfl,p,_,_,rfl,p2,by omega,⟨by omega,bits_le (b60 (by omega) (by omega)) (by decide)⟩,fun r3 H3 a3 b3' b3 p3 => ?_⟩
    refine ⟨_,rfl,p,_,_,rfl,p3,by omega,⟨by decide,by decide⟩,fun r4 H4 a4 b4' b4 p4 => ?_⟩
    refine ⟨_,_,rfl,rfl,CM.l ⟨by decide,by decide⟩,_,_,rfl,rfl,_,_,rfl,rfl,CM.r ⟨by omega,by omega⟩,?_⟩
    refine ⟨_,rfl,_,rfl,?_⟩
    refine ⟨_,_,rfl,rfl,⟨by decide,by decide,by decide⟩,_,_,rfl,rfl,sz (by simp),fun l5 H5 s5 f5 n5 => ?_⟩
    have np5 := Pot.ne p4 n5
    have p5 := p4.same s5
    refine ⟨_,rfl,p,_,_,rfl,p5,by omega,⟨by decide,by decide⟩,fun r6 H6 a6 b6' b6 p6 => ?_⟩
    refine menuI (fun m => 1 ≤ m ∧ m ≤ 999999999999999999999999999999999999999999999999999999999999) (b6 _ _ np5 f5) a6 (by simpa using b6') (fun v hv => ?_) fun S6 hS6 => ?_
    · simp only [List.mem_cons,List.not_mem_nil,or_false] at hv
      rcases hv with rfl | rfl | rfl | rfl
      · exact ⟨_,rfl,by decide,by decide⟩
      · exact ⟨_,rfl,by decide,by decide⟩
      · exact ⟨_,rfl,by decide,by decide⟩
      · exact ⟨_,rfl,by rw [e60]; decide,by rw [e60]; decide⟩
    refine ⟨p,_,_,rfl,p6,by omega,⟨by omega,bits_le (b60 (by omega) (by omega)) (by decide)⟩,fun r7 H7 a7 b7' b7 p7 => ⟨_,_,rfl,rfl,?_⟩⟩
    refine ⟨_,_,rfl,⟨by omega,bits_le (b60 (by omega) (by omega)) (by decide)⟩,fun z t u H8 fr et eu s8 f8 n8 => ?_⟩
    have B : But p H H8 := (But.of s1).trans (b2.trans (b3.trans (b4.trans ((But.of s5).trans (b6.trans (b7.trans (But.of s8)))))))
    have hg := gcd_pos (a := r3 * (1 - 2 * r4)) (b := 1 + r7) (by omega)
    have ht : t.natAbs < 10 ^ 60 := by
      rw [et]
      refine Nat.lt_of_le_of_lt (abs_ediv hg) ?_
      have : (r3 * (1 - 2 * r4)).natAbs = r3.natAbs := by
        rw [Int.natAbs_mul]
        have : (1 - 2 * r4).natAbs = 1 := by omega
        rw [this,Nat.mul_one]
      rw [this]
      show _ < 1000000000000000000000000000000000000000000000000000000000000
      omega
    have hu : u.natAbs ≤ 10 ^ 60 := by
      rw [eu]
      refine Nat.le_trans (abs_ediv hg) ?_
      show _ ≤ 1000000000000000000000000000000000000000000000000000000000000
      omega
    exact q z t u H8 fr.low ht hu f8 B ((p7.same s8).mono (by omega))
theorem wr_one {v : Int} (h : v.natAbs < 10 ^ 1000) : Wr v 1 := ⟨⟨by decide,Int.gcd_one⟩,h,by
  show 1 < 10 ^ 1000
  exact Nat.one_lt_pow (by decide) (by decide)⟩
def spReadRX (C : Addr) : Sp := fun vs H Q E => ∃ x : Str,vs = [.str x] ∧ x.length ≤ 60000 ∧
  ((∃ a b : Int,x = showR a b ∧ Wr a b ∧ ∀ (p : Addr) (H' : Hp),Same H H' → H' p = some (.tup [.int a,.int b]) → H p = none → Q (.ref p) H') ∨ ((∀ a b : Int,Wr a b → x ≠ showR a b) ∧ ∀ H',Same H H' → E (.ref C) none H'))
theorem map_num_inj : ∀ {as bs : List Int},as.map num = bs.map num → as = bs
  | [],[],_ => rfl
  | [],_ :: _,h => by simp at h
  | _ :: _,[],h => by simp at h
  | a :: as,b :: bs,h => by
    simp only [List.map_cons,List.cons.injEq] at h
    rw [num_inj h.1,map_num_inj h.2]
theorem all_nums : ∀ {ps : List Str},(∀ p ∈ ps,∃ n : Int,p = num n ∧ n.natAbs < 10 ^ 1000) → ∃ ns : List Int,ps = ns.map num ∧ ∀ n ∈ ns,n.natAbs < 10 ^ 1000
  | [],_ => ⟨[],rfl,fun _ h => nomatch h⟩
  | p :: ps,h => by
    obtain ⟨n,e,hn⟩ := h p List.mem_cons_self
    obtain ⟨ns,e2,h2⟩ := all_nums (ps := ps) fun q hq => h q (List.mem_cons_of_mem _ hq)
    exact ⟨n :: ns,by rw [e,e2]; rfl,fun m hm => by
      rcases List.mem_cons.mp hm with rfl | hm
      · exact hn
      · exact h2 m hm⟩
def lowOf (ns : List Int) : Int := if 1 < ns.length then ns.getLast?.getD 1 else 1
theorem parts_of {a b : Int} {ns : List Int} (h : ns = parts a b) : ns.head?.getD 0 = a ∧ lowOf ns = b := by
  subst h
  unfold parts lowOf
  split
  · rename_i e
    exact ⟨rfl,e.symm⟩
  · exact ⟨rfl,rfl⟩
theorem parts_small {a b : Int} (h : Wr a b) : ∀ n ∈ parts a b,n.natAbs < 10 ^ 1000 := fun n hn => by
  unfold parts at hn
  split at hn
  · rw [List.mem_singleton.mp hn]
    exact h.top
  · simp only [List.mem_cons,List.not_mem_nil,or_false] at hn
    rcases hn with rfl | rfl
    · exact h.top
    · exact h.bot
theorem at_zero {α : Type} (x : α) (xs : List α) : atI (x :: xs) 0 = some x := by
  unfold atI ixN
  rw [if_pos (Int.le_refl 0),if_pos (by rw [List.length_cons]; omega)]
  rfl
theorem at_last {α : Type} {xs : List α} {b : α} (h : xs.getLast? = some b) : atI xs (-1) = some b := by
  have hl : 0 < xs.length := by
    cases xs with
    | nil => cases h
    | cons _ _ => simp
  unfold atI ixN
  rw [List.getLast?_eq_getElem?] at h
  rw [if_neg (by decide),if_pos (by omega),show ((-1 : Int) + (xs.length : Int)).toNat = xs.length - 1 by omega]
  exact h
theorem split_len_le {x y p : Str} (h : p ∈ Txt.split x y) : p.length ≤ x.length := PyProof.Rows.part_short h
theorem S_read_ratio : FnScope ["text","numbers","fraction"] ["text"] (defScope (top 23)) := ⟨rfl,rfl,rfl,by decide +kernel,rfl,by decide +kernel,by decide +kernel⟩
theorem fn_read_ratio {C : Addr} (D_read_ratio : Df K mg "read_ratio" (top 23)) (O_NoText : ExcC K mg "NoText" C) (F_is_ratio : Fn P w K mg base "is_ratio" ["thing"] 2 spLow) (F_show_ratio : Fn P w K mg base "show_ratio" ["a"] 1 spShow) (F_read_whole : Fx P w K mg base "read_whole" ["text"] 2 [] (spReadW C)) (T : Txt mg) : Fx P w K mg base "read_ratio" ["text"] 3 [] (spReadRX C) := by
  refine D_read_ratio.fx S_read_ratio (fun _ _ _ _ _ _ us hl => match us,hl with | [_],_ => rfl) (fun vs H Q E h => ?_) (fun f cdv A outer s H vs Q E hr h => ?_)
  · obtain ⟨x,rfl,_⟩ := h
    rfl
  · obtain ⟨x,rfl,hl,h⟩ := h
    have CN : CompN (cxOf (CXE P w) P w K mg base ["text","numbers","fraction"] "read_ratio" (defScope (top 23)) f cdv A outer s H E) (setScope ((defBody (top 23)).getD 0 (.Pass ⟨0,0,0,0⟩))) [] "part" [] :=
      ⟨by rfl,rfl,by decide +kernel,by decide +kernel,rfl,(fun p hp => nomatch hp),by rfl,by decide +kernel,(fun p hp => nomatch hp),⟨rfl,rfl⟩,rfl⟩
    have no : (∀ a b : Int,Wr a b → x ≠ showR a b) → ∀ H',Same H H' → E (.ref C) none H' := fun z H' s' => by
      rcases h with ⟨a,b,e,wr,_⟩ | ⟨_,k⟩
      · exact absurd e (z a b wr)
      · exact k H' s'
    have hsp : ∀ a b : Int,x = showR a b → Txt.split x (Str.ofString "/") = (parts a b).map num := fun a b e => by rw [e,split_showR]
    have R : ∃ u : TS,PSs (cxOf (CXE P w) P w K mg base ["text","numbers","fraction"] "read_ratio" (defScope (top 23)) f cdv A outer s H E) ((defBody (top 23)).drop 2) u ∧ ∀ (l t : Addr) (a b : Int) (H3 : Hp),(∀ a' b',Wr a' b' → x = showR a' b' → a = a' ∧ b = b') → a.natAbs < 10 ^ 1000 → b.natAbs < 10 ^ 1000 → Same H H3 → H3 t = some (.tup [.int a,.int b]) → H t = none → u { nx := fun _ H' => Q .non H',rt := Q } [some (.str x),some (.ref l),some (.ref t)] H3 := by
      refine ⟨_,(pss_cons (ps_if (pw_or (pt_not (pt_val (pe_fn F_is_ratio (hr.mono (by decide)) (by rfl) (pa_cons (pv 2) pa_nil)))) (pw_or1 (pt_cmpR op_ne (pe_fn F_show_ratio (hr.mono (by decide)) (by rfl) (pa_cons (pv 2) pa_nil)) (pv 0) (nomark _)))).pt (pss_one (ps_raise O_NoText (by rfl))) pss_nil) (pss_one (ps_ret (pv 2)))),fun l t a b H3 hu ha hb s3 f3 n3 => ?_⟩
      refine ⟨_,rfl,_,rfl,th_two f3,_,rfl,ite3 (fun c1 => no (fun a' b' w' e => ?_) H3 s3) (fun c1 => ?_)⟩
      · obtain ⟨rfl,rfl⟩ := hu a' b' w' e
        rw [low_t f3 w'.low] at c1
        cases c1
      have lw : Low a b := by
        have c1 : lowV H3 (.ref t) = true := by simpa using c1
        rw [lowV_two f3] at c1
        unfold lowB at c1
        rw [Bool.and_eq_true,decide_eq_true_eq,decide_eq_true_eq] at c1
        exact ⟨c1.1,c1.2⟩
      have wr : Wr a b := ⟨lw,ha,hb⟩
      refine ⟨_,rfl,t,a,b,rfl,f3,wr.dg,_,rfl,rfl,_,rfl,ite3 (fun c2 => no (fun a' b' w' e => ?_) H3 s3) (fun c2 => ?_)⟩
      · obtain ⟨rfl,rfl⟩ := hu a' b' w' e
        rw [e] at c2
        simp at c2
      · have c2 : showR a b = x := by simpa using c2
        rcases h with ⟨a',b',e,w',k⟩ | ⟨z,_⟩
        · obtain ⟨rfl,rfl⟩ := hu a' b' w' e
          exact ⟨_,rfl,k t H3 s3 f3 n3⟩
        · exact absurd c2.symm (z a b wr)
    obtain ⟨u,hu,rd⟩ := R
    refine ⟨_,(pss_cons (ps_setCompX (j := 1) CN S_read_ratio.nd rfl rfl (pi_list (pe_bm PySem.F.plainAttrs_str PySem.F.slot_str_split PySem.F.type_str_split mt_split (pv 0) (pa_cons pe_str pa_nil))) (fun fp s₀ H₀ => (pe_fxB F_read_whole (hr.mono (by decide)) (by rfl) (pa_cons (pv 0) pa_nil)))) (pss_cons (ps_set (i := 2) S_read_ratio.nd rfl (Or.inl rfl) (pe_tupA (pa_cons (pe_ix ix_list (pv 1) pe_int (fun _ _ => rfl)) (pa_cons (pe_ifExp (pt_cmpR op_gt (pe_callB call_len_seq (by rfl) T.z_len bt_len (pa_cons (pv 1) pa_nil)) pe_int (nomark _)) (pe_ix ix_list (pv 1) (pe_un un_neg pe_int) (fun _ _ => rfl)) pe_int) pa_nil)))) hu)),?_⟩
    refine ⟨_,rfl,rfl,_,_,rfl,rfl,rfl,by omega,fun l1 H1 s1 f1 n1 => ?_⟩
    have hpl := PyProof.Rows.split_le x (Str.ofString "/")
    refine ⟨l1,rfl,⟨_,SqL.of f1⟩,comp_RB (SqL.of f1) (by rw [List.length_map]; omega) (fun i v H' => ∃ n : Int,(Txt.split x (Str.ofString "/"))[i]? = some (num n) ∧ n.natAbs < 10 ^ 1000 ∧ v = .int n) (fun i v H H' _ z => z) ?_ ?_⟩
    · intro i y H2 Kc hx s2 kk
      rw [List.getElem?_map] at hx
      obtain ⟨pt,hp,rfl⟩ := Option.map_eq_some_iff.mp hx
      have hm := List.mem_of_getElem? hp
      have hsz := split_len_le hm
      by_cases hn : ∃ n : Int,pt = num n ∧ n.natAbs < 10 ^ 1000
      · obtain ⟨n,rfl,hn⟩ := hn
        exact ⟨_,rfl,num n,rfl,by omega,.inl ⟨n,rfl,hn,fun H3 s3 => kk _ _ s3 ⟨n,hp,hn,rfl⟩⟩⟩
      · refine ⟨_,rfl,pt,rfl,by omega,.inr ⟨fun n hb e => hn ⟨n,e,hb⟩,fun H3 s3 => no (fun a b w' e => ?_) H3 (s1.trans (s2.trans s3))⟩⟩
        rw [hsp a b e] at hm
        obtain ⟨n,hn2,e2⟩ := List.mem_map.mp hm
        exact hn ⟨n,e2.symm,parts_small w' n hn2⟩
    · intro l ys H2 nl s2 f2 hly hr
      rw [List.length_map] at hly
      obtain ⟨ns,e1,hsm⟩ := all_nums (ps := Txt.split x (Str.ofString "/")) fun p hp => by
        obtain ⟨i,hi,e⟩ := List.mem_iff_getElem.mp hp
        have hy : i < ys.length := by omega
        obtain ⟨n,h1,h2,_⟩ := hr i _ (List.getElem?_eq_getElem hy)
        rw [List.getElem?_eq_getElem hi,e] at h1
        exact ⟨n,Option.some.inj h1,h2⟩
      have ey : ys = ns.map V.int := by
        apply List.ext_getElem?
        intro i
        rw [List.getElem?_map]
        cases hy : ys[i]? with
        | none =>
          have h2 := List.getElem?_eq_none_iff.mp hy
          have : (Txt.split x (Str.ofString "/")).length = ns.length := by rw [e1,List.length_map]
          rw [List.getElem?_eq_none (by omega)]
          rfl
        | some y =>
          obtain ⟨n,h1,_,rfl⟩ := hr i y hy
          rw [e1,List.getElem?_map] at h1
          obtain ⟨m,hm,e2⟩ := Option.map_eq_some_iff.mp h1
          rw [hm,num_inj e2]
          rfl
      subst ey
      have hun : ∀ a' b',Wr a' b' → x = showR a' b' → ns.head?.getD 0 = a' ∧ lowOf ns = b' := fun a' b' _ e => parts_of (map_num_inj (by rw [← e1,hsp a' b' e]))
      have S2 := s1.trans s2
      match hns : ns with
      | [] =>
        have := PyProof.Rows.split_pos x (Str.ofString "/")
        rw [e1] at this
        exact absurd this (by simp)
      | [a] =>
        have f2 : H2 l = some (.lst [.int a]) := f2
        refine ⟨_,rfl,l,_,_,_,rfl,rfl,SqL.of f2,rfl,_,rfl,l,_,rfl,.inl (SqL.of f2),_,_,rfl,rfl,_,rfl,iteFalse (by simp) ?_⟩
        exact ⟨sz (by simp),fun t H3 s3 f3 n3 => rd l t a 1 H3 hun (hsm a (by simp)) (by show 1 < 10 ^ 1000; exact Nat.one_lt_pow (by decide) (by decide)) (S2.trans s3) f3 (none_of_same S2 n3)⟩
      | a :: c :: r =>
        have f2 : H2 l = some (.lst (.int a :: .int c :: r.map V.int)) := f2
        obtain ⟨b,hb1,hb2⟩ : ∃ b,(a :: c :: r).getLast? = some b ∧ b ∈ a :: c :: r := ⟨_,List.getLast?_eq_some_getLast (by simp),List.getLast_mem (by simp)⟩
        have hat : atI ((a :: c :: r).map V.int) (-1) = some (.int b) := by
          refine at_last ?_
          rw [List.getLast?_map,hb1]
          rfl
        have hlo : lowOf (a :: c :: r) = b := by
          unfold lowOf
          rw [if_pos (by simp),hb1]
          rfl
        refine ⟨_,rfl,l,_,_,_,rfl,rfl,SqL.of f2,at_zero _ _,_,rfl,l,_,rfl,.inl (SqL.of f2),_,_,rfl,rfl,_,rfl,iteTrue (by simp; omega) ?_⟩
        refine ⟨_,rfl,_,rfl,l,_,_,_,rfl,rfl,SqL.of f2,hat,?_⟩
        exact ⟨sz (by simp),fun t H3 s3 f3 n3 => rd l t a b H3 (fun a' b' w' e => by rw [← hlo]; exact hun a' b' w' e) (hsm a (by simp)) (hsm b hb2) (S2.trans s3) f3 (none_of_same S2 n3)⟩
theorem slice_head {x : Str} : Txt.slice x none (some 1) = Str.ofString "-" ↔ ∃ r,x.cps.toList = 45 :: r := by
  rw [minus_one]
  by_cases h0 : x.cps.toList = []
  · have e : x = ⟨#[]⟩ := PyProof.Rows.ext_toList h0
    subst e
    exact ⟨fun z => absurd z (by decide +kernel),fun ⟨r,z⟩ => by cases z⟩
  · obtain ⟨c,r,e⟩ : ∃ c r,x.cps.toList = c :: r := by
      cases hx : x.cps.toList with
      | nil => exact absurd hx h0
      | cons c r => exact ⟨c,r,rfl⟩
    have hl := len_toList x
    rw [e,List.length_cons] at hl
    have es : Txt.slice x none (some 1) = ⟨#[c]⟩ := by
      apply PyProof.Rows.ext_toList
      have := beq_iff_eq.mp (PyProof.Rows.slice_closes_toL (x := x) (j := 1) (by decide) (by omega))
      rw [this,e]
      rfl
    rw [es,e]
    constructor
    · intro z
      have := congrArg (fun s => s.cps.toList) z
      simp at this
      exact ⟨r,by rw [this]⟩
    · rintro ⟨q,z⟩
      rw [(List.cons.inj z).1]
theorem digs_zero {m : Nat} {r : List Nat} (h : digs m = 48 :: r) : m = 0 ∧ r = [] := by
  have ha := digs_all m
  have hv := digs_val m
  rw [h] at ha hv
  rw [PySem.NumText.digitsVal_zero] at hv
  have lt := val_lt ha.tail
  rw [hv] at lt
  cases r with
  | nil => exact ⟨by simpa [PySem.NumText.digitsVal] using hv.symm,rfl⟩
  | cons c q =>
    have := (digs_len (m := m) (k := (c :: q).length) (by simp)).mpr lt
    rw [h] at this
    simp at this
    omega
theorem canon {x : Str} (ad : PySem.NumText.AllDigits (figL x.cps.toList)) (hne : figL x.cps.toList ≠ []) (h0 : ∀ r,figL x.cps.toList = 48 :: r → r = [] ∧ ∀ q,x.cps.toList ≠ 45 :: q) : ∃ v,x = num v := by
  have ed : digs (PySem.NumText.digitsVal (figL x.cps.toList)) = figL x.cps.toList := by
    refine digs_of ad hne ?_
    by_cases hz : ∃ r,figL x.cps.toList = 48 :: r
    · obtain ⟨r,e⟩ := hz
      rw [e,(h0 r e).1]
      exact .inl rfl
    · exact .inr fun r e => hz ⟨r,e⟩
  by_cases hm : ∃ q,x.cps.toList = 45 :: q
  · obtain ⟨q,e⟩ := hm
    have eq : figL x.cps.toList = q := by rw [e]; rfl
    rw [eq] at ad hne ed h0
    obtain ⟨c,r,ec⟩ : ∃ c r,q = c :: r := by
      cases q with
      | nil => exact absurd rfl hne
      | cons c r => exact ⟨c,r,rfl⟩
    have hc : 49 ≤ c := by
      have h48 := ad c (by rw [ec]; exact List.mem_cons_self)
      have : c ≠ 48 := fun z => (h0 r (by rw [ec,z])).2 q e
      omega
    have hp : 0 < PySem.NumText.digitsVal q := by rw [ec]; exact PySem.NumText.digitsVal_pos hc
    obtain ⟨m,hm⟩ : ∃ m,PySem.NumText.digitsVal q = m + 1 := ⟨PySem.NumText.digitsVal q - 1,by omega⟩
    refine ⟨-((m + 1 : Nat) : Int),PyProof.Rows.ext_toList ?_⟩
    rw [num_neg,← hm,ed,e]
  · have ef := figL_of (l := x.cps.toList) fun r e => hm ⟨r,e⟩
    refine ⟨((PySem.NumText.digitsVal (figL x.cps.toList) : Nat) : Int),PyProof.Rows.ext_toList ?_⟩
    rw [num_nat,ed,ef]
def spLW : Sp := fun vs H Q _ => ∃ x : Str,vs = [.str x] ∧ x.length ≤ 60000 ∧
  ((∃ n : Int,x = num n ∧ n.natAbs < 10 ^ 1000 ∧ ∀ H',Same H H' → Q (.int n) H') ∨ ((∀ n : Int,n.natAbs < 10 ^ 1000 → x ≠ num n) ∧ ∀ H',Same H H' → Q .non H'))
def or3Scope (s : Stmt) : Scope := match s with
  | .If (.BoolOp _ [_,_,.UnaryOp _ (.Call _ [.ListComp _ _ sc _] _ _) _] _) _ _ _ => sc
  | _ => { kind := .function,names := [],isGenerator := false,isCoroutine := false }
theorem empty_cps : (Str.ofString "").cps.toList = [] := by decide +kernel
theorem zero_one : Str.ofString "0" = ⟨#[48]⟩ := by decide +kernel
theorem S_law_whole_in : FnScope ["text","figures"] ["text"] (defScope (top 35)) := ⟨rfl,rfl,rfl,by decide +kernel,rfl,by decide +kernel,by decide +kernel⟩
theorem fn_law_whole_in (D_law_whole_in : Df K mg "_law_whole_in" (top 35)) (DG : Dig K) (T : Txt mg) : Fn P w K mg base "_law_whole_in" ["text"] 1 spLW := by
  refine D_law_whole_in.fn S_law_whole_in (fun _ _ _ _ _ _ us hl => match us,hl with | [_],_ => rfl) (fun vs H Q E h => ?_) (fun f cdv A outer s H vs Q E hr h => ?_)
  · obtain ⟨x,rfl,_⟩ := h
    rfl
  · obtain ⟨x,rfl,hl,h⟩ := h
    have CN : CompN (cxOf CX0 P w K mg base ["text","figures"] "_law_whole_in" (defScope (top 35)) f cdv A outer s H E).nox (or3Scope ((defBody (top 35)).getD 2 (.Pass ⟨0,0,0,0⟩))) [] "sign" [] :=
      ⟨by rfl,rfl,by decide +kernel,by decide +kernel,rfl,(fun p hp => nomatch hp),by rfl,by decide +kernel,(fun p hp => nomatch hp),⟨rfl,rfl⟩,rfl⟩
    have no : (∀ n : Int,n.natAbs < 10 ^ 1000 → x ≠ num n) → ∀ H',Same H H' → Q .non H' := fun z H' s' => by
      rcases h with ⟨n,e,hn,_⟩ | ⟨_,k⟩
      · exact absurd e (z n hn)
      · exact k H' s'
    have sl1 : (Txt.slice x none (some 1)).length ≤ sizeLine := line_sz (Nat.le_trans (Txt.slice_le x _ _) (by omega))
    have R : ∃ u : TS,PSs (cxOf CX0 P w K mg base ["text","figures"] "_law_whole_in" (defScope (top 35)) f cdv A outer s H E).nox ((defBody (top 35)).drop 2) u ∧ ∀ (F : Str),F.cps.toList = figL x.cps.toList → F.length ≤ 60000 → u { nx := fun _ H' => Q .non H',rt := Q } [some (.str x),some (.str F)] H := by
      refine ⟨_,(pss_cons (ps_if (pw_or (pt_cmpR op_eq (pv 1) pe_str (nomark _)) (pw_or (pt_cmpR op_gt (pe_callB call_len_str (by rfl) T.z_len bt_len (pa_cons (pv 1) pa_nil)) pe_int (nomark _)) (pw_or1 (pt_not (pt_val (pe_callB (call_all rfl) (by rfl) T.z_all bt_all (pa_cons (pe_compA rfl CN (pi_str (pv 1)) (fun fp s₀ H₀ => (pe_cmpR op_inS (pv 0) pe_str (by rfl)))) pa_nil))))))).pt (pss_one (ps_ret pe_non)) pss_nil) (pss_cons (ps_if (pw_and (pt_cmpR op_eq (pe_ix ix_str (pv 1) pe_int (fun _ _ => rfl)) pe_str (nomark _)) (pw_and1 (pw_or (pt_cmpR op_gt (pe_callB call_len_str (by rfl) T.z_len bt_len (pa_cons (pv 1) pa_nil)) pe_int (nomark _)) (pw_or1 (pt_cmpR op_eq (pe_slice sl_strS (pv 0) po_none (po_some pe_int)) pe_str (nomark _)))).pt)).pt (pss_one (ps_ret pe_non)) pss_nil) (pss_one (ps_ret (pe_callTy (call_intS (K := K) rfl DG) (by rfl) T.z_int bt_int (pa_cons (pv 0) pa_nil)))))),fun F hF hz => ?_⟩
      have lF := len_toList F
      have nf : ∀ n : Int,x = num n → F.cps.toList = digs n.natAbs := fun n e => by rw [hF,e,num_fig]
      refine ⟨_,rfl,rfl,_,rfl,ite3 (fun c0 => ?_) (fun c0 => ?_)⟩
      · have c0 : F = Str.ofString "" := by simpa using c0
        refine iteT (no (fun n hn e => digs_ne n.natAbs ?_) H (Same.refl _))
        rw [← nf n e,c0,empty_cps]
      have c0 : F.cps.toList ≠ [] := fun z => by
        have : F = Str.ofString "" := PyProof.Rows.ext_toList (by rw [z,empty_cps])
        rw [this] at c0
        simp at c0
      refine ⟨_,rfl,F,rfl,line_sz (by omega),_,_,rfl,rfl,_,rfl,ite3 (fun c2 => ?_) (fun c2 => ?_)⟩
      · have c2 : 1000 < (F.length : Int) := by simpa using c2
        refine iteT (no (fun n hn e => ?_) H (Same.refl _))
        have := (digs_len (k := 1000) (by decide)).mpr hn
        rw [← nf n e] at this
        omega
      have c2 : (F.length : Int) ≤ 1000 := by simpa using c2
      refine ⟨_,rfl,F,rfl,comp_sR (x := F) (by show F.length < _; omega) (fun i v H' => ∃ c,F.cps.toList[i]? = some c ∧ v = .bl (decide (48 ≤ c ∧ c ≤ 57))) (fun i v H H' _ z => z) ?_ ?_⟩
      · intro i c H2 Kc hc s2 kk
        refine ⟨_,rfl,_,_,rfl,rfl,kk _ _ (Same.refl _) ⟨c,hc,?_⟩⟩
        rw [in_figs]
      · intro l ys H2 nl s2 f2 hly hr
        have ey : ys = (F.cps.toList.map fun c => decide (48 ≤ c ∧ c ≤ 57)).map V.bl := by
          apply List.ext_getElem?
          intro i
          rw [List.map_map,List.getElem?_map]
          cases hy : ys[i]? with
          | none =>
            have : F.cps.toList.length ≤ i := by
              have := List.getElem?_eq_none_iff.mp hy
              have e9 : F.cps.size = F.cps.toList.length := by simp
              omega
            rw [List.getElem?_eq_none this]
            rfl
          | some y =>
            obtain ⟨c,hc,rfl⟩ := hr i y hy
            rw [hc]
            rfl
        subst ey
        refine ⟨l,_,rfl,SqL.of f2,_,rfl,ite3 (fun c3 => no (fun n hn e => ?_) H2 s2) (fun c3 => ?_)⟩
        · have z := nf n e
          have c3 : ((F.cps.toList.map fun c => decide (48 ≤ c ∧ c ≤ 57)).all id) = false := by simpa only [Bool.not_eq_true'] using c3
          rw [z,List.all_map] at c3
          have : (digs n.natAbs).all (id ∘ fun c => decide (48 ≤ c ∧ c ≤ 57)) = true := List.all_eq_true.mpr fun c hc => decide_eq_true (digs_all _ c hc)
          rw [this] at c3
          cases c3
        have c3 : ((F.cps.toList.map fun c => decide (48 ≤ c ∧ c ≤ 57)).all id) = true := by simpa only [Bool.not_eq_false'] using c3
        have ad : PySem.NumText.AllDigits (figL x.cps.toList) := fun c hc => by
          rw [← hF] at hc
          rw [List.all_map,List.all_eq_true] at c3
          exact of_decide_eq_true (c3 c hc)
        obtain ⟨v,hs,h43,it,hv,hu⟩ := whole_read (x := x) (k := 1000) ad (by rw [← hF]; exact c0) (by rw [← hF]; omega) (by decide)
        have end_ : (∃ v,x = num v) → ∀ (t : TS),t = tRet (tCB rIntS (tCons (tVar 0) tNil)) → t { nx := fun _ H' => Q .non H',rt := Q } [some (.str x),some (.str F)] H2 := fun ⟨v',e⟩ t et => by
          subst et
          refine ⟨_,rfl,x,v,rfl,hs,h43,it,?_⟩
          rcases h with ⟨n,e,hn,k⟩ | ⟨hno,_⟩
          · have := hu n e
            subst this
            exact k H2 s2
          · have := hu v' e
            subst this
            exact absurd e (hno _ hv)
        obtain ⟨c,r,ec⟩ : ∃ c r,F.cps.toList = c :: r := by
          cases hq : F.cps.toList with
          | nil => exact absurd hq c0
          | cons c r => exact ⟨c,r,rfl⟩
        refine ⟨_,rfl,F,0,c,rfl,rfl,line_sz (by omega),by rw [ec]; exact at_zero _ _,rfl,_,rfl,ite3 (fun c4 => ?_) (fun c4 => ?_)⟩
        · have c4 : c = 48 := by
            have : (⟨#[c]⟩ : Str) = Str.ofString "0" := by simpa using c4
            rw [zero_one] at this
            have := congrArg (fun s => s.cps.toList) this
            simpa using this
          subst c4
          refine ⟨_,rfl,F,rfl,line_sz (by omega),_,_,rfl,rfl,_,rfl,ite3 (fun c5 => ?_) (fun c5 => ?_)⟩
          · have c5 : 1 < (F.length : Int) := by simpa using c5
            refine iteT (no (fun n hn e => ?_) H2 s2)
            have z := digs_zero ((nf n e).symm.trans ec)
            rw [z.2] at ec
            rw [ec] at lF
            simp at lF
            omega
          have c5 : ¬ 1 < (F.length : Int) := by simpa using c5
          have er : r = [] := by
            rw [ec,List.length_cons] at lF
            exact List.length_eq_zero_iff.mp (by omega)
          refine ⟨_,rfl,_,rfl,x,rfl,sl1,rfl,_,rfl,ite3 (fun c6 => no (fun n hn e => ?_) H2 s2) (fun c6 => ?_)⟩
          · have c6 : Txt.slice x none (some 1) = Str.ofString "-" := by simpa using c6
            obtain ⟨q,eq⟩ := slice_head.mp c6
            have z := digs_zero ((nf n e).symm.trans ec)
            rw [e] at eq
            rcases num_cases n with ⟨e2,_⟩ | ⟨_,h2⟩
            · rw [e2] at eq
              exact absurd eq (digits_nominus (digs_all _) _)
            · omega
          · have c6 : ¬ Txt.slice x none (some 1) = Str.ofString "-" := by simpa using c6
            refine end_ (canon ad (by rw [← hF]; exact c0) fun r' e' => ⟨?_,fun q eq => c6 (slice_head.mpr ⟨q,eq⟩)⟩) _ rfl
            rw [← hF,ec,er] at e'
            exact (List.cons.inj e').2.symm
        · have c4 : c ≠ 48 := fun z => by
            rw [z,← zero_one] at c4
            simp at c4
          refine end_ (canon ad (by rw [← hF]; exact c0) fun r' e' => ?_) _ rfl
          rw [← hF,ec] at e'
          exact absurd (List.cons.inj e').1 c4
    obtain ⟨u,hu,rd⟩ := R
    refine ⟨_,(pss_cons (ps_set (i := 1) S_law_whole_in.nd rfl (Or.inl rfl) (pv 0)) (pss_cons (ps_if (pt_cmpR op_eq (pe_slice sl_strS (pv 0) po_none (po_some pe_int)) pe_str (nomark _)) (pss_one (ps_set (i := 1) S_law_whole_in.nd rfl (Or.inl rfl) (pe_slice sl_strS (pv 0) (po_some pe_int) po_none))) pss_nil) hu)),?_⟩
    refine ⟨_,rfl,?_⟩
    refine ⟨_,rfl,_,rfl,x,rfl,sl1,rfl,_,rfl,ite3 (fun h1 => ?_) (fun h1 => ?_)⟩
    · have h1 : Txt.slice x none (some 1) = Str.ofString "-" := by simpa using h1
      obtain ⟨r,e⟩ := slice_head.mp h1
      have es := slice_from1 e
      have l1 := len_toList (Txt.slice x (some 1) none)
      have l2 := len_toList x
      rw [es] at l1
      rw [e,List.length_cons] at l2
      refine ⟨_,rfl,_,rfl,x,rfl,line_sz (by omega),?_⟩
      exact rd _ (by rw [es,e]; rfl) (by omega)
    · have h1 : ¬ Txt.slice x none (some 1) = Str.ofString "-" := by simpa using h1
      exact rd x (figL_of fun r e => h1 (slice_head.mpr ⟨r,e⟩)).symm hl
def spLFr : Sp := fun vs H Q _ => ∃ x : Str,vs = [.str x] ∧ x.length ≤ 60000 ∧
  ((∃ a b : Int,x = showR a b ∧ Wr a b ∧ ∀ (p : Addr) (H' : Hp),Same H H' → H' p = some (.tup [.int a,.int b]) → H p = none → Q (.ref p) H') ∨ ((∀ a b : Int,Wr a b → x ≠ showR a b) ∧ ∀ H',Same H H' → Q .non H'))
def valOf (o : Option Int) : V := match o with
  | some n => .int n
  | none => .non
theorem vals_none {os : List (Option Int)} : inV .non (os.map valOf) = true ↔ none ∈ os := by
  unfold inV
  rw [List.any_eq_true]
  constructor
  · rintro ⟨v,hv,he⟩
    obtain ⟨o,ho,rfl⟩ := List.mem_map.mp hv
    cases o with
    | none => exact ho
    | some n => cases he
  · intro h
    exact ⟨.non,List.mem_map.mpr ⟨none,h,rfl⟩,rfl⟩
theorem vals_flat (os : List (Option Int)) : (os.map valOf).all flatV = true := by
  rw [List.all_eq_true]
  intro v hv
  obtain ⟨o,_,rfl⟩ := List.mem_map.mp hv
  cases o <;> rfl
def readO (p : Str) (o : Option Int) : Prop := match o with
  | some n => p = num n ∧ n.natAbs < 10 ^ 1000
  | none => ∀ n : Int,n.natAbs < 10 ^ 1000 → p ≠ num n
theorem os_of : ∀ {ps : List Str} {ys : List V},ys.length = ps.length → (∀ (i : Nat) y,ys[i]? = some y → ∃ p o,ps[i]? = some p ∧ y = valOf o ∧ readO p o) → ∃ os : List (Option Int),ys = os.map valOf ∧ os.length = ps.length ∧ ∀ (i : Nat) p o,ps[i]? = some p → os[i]? = some o → readO p o
  | [],[],_,_ => ⟨[],rfl,rfl,fun i p o h => by simp at h⟩
  | [],_ :: _,h,_ => by simp at h
  | _ :: _,[],h,_ => by simp at h
  | p :: ps,y :: ys,h,hr => by
    obtain ⟨os,e1,e2,e3⟩ := os_of (ps := ps) (ys := ys) (by simpa using h) fun i y hy => by simpa using hr (i + 1) y (by simpa using hy)
    obtain ⟨p',o,hp,ey,ro⟩ := hr 0 y rfl
    cases hp
    refine ⟨o :: os,by rw [ey,e1]; rfl,by simp [e2],fun i q o' h1 h2 => ?_⟩
    cases i with
    | zero => cases h1; cases h2; exact ro
    | succ i => exact e3 i q o' (by simpa using h1) (by simpa using h2)
theorem nums_of : ∀ {os : List (Option Int)},none ∉ os → ∃ ns : List Int,os = ns.map some
  | [],_ => ⟨[],rfl⟩
  | none :: _,h => absurd List.mem_cons_self h
  | some n :: os,h => by
    obtain ⟨ns,e⟩ := nums_of (os := os) fun z => h (List.mem_cons_of_mem _ z)
    exact ⟨n :: ns,by rw [e]; rfl⟩
theorem S_law_fraction : FnScope ["text","parts","numbers"] ["text"] (defScope (top 36)) := ⟨rfl,rfl,rfl,by decide +kernel,rfl,by decide +kernel,by decide +kernel⟩
theorem fn_law_fraction (D_law_fraction : Df K mg "_law_fraction" (top 36)) (F_law_whole_in : Fn P w K mg base "_law_whole_in" ["text"] 1 spLW) (F_law_divisor : Fn P w K mg base "_law_divisor" ["one","other"] 1 spDiv) (T : Txt mg) : Fn P w K mg base "_law_fraction" ["text"] 2 spLFr := by
  refine D_law_fraction.fn S_law_fraction (fun _ _ _ _ _ _ us hl => match us,hl with | [_],_ => rfl) (fun vs H Q E h => ?_) (fun f cdv A outer s H vs Q E hr h => ?_)
  · obtain ⟨x,rfl,_⟩ := h
    rfl
  · obtain ⟨x,rfl,hl,h⟩ := h
    have CN : CompN (cxOf CX0 P w K mg base ["text","parts","numbers"] "_law_fraction" (defScope (top 36)) f cdv A outer s H E).nox (setScope ((defBody (top 36)).getD 1 (.Pass ⟨0,0,0,0⟩))) [] "part" [] :=
      ⟨by rfl,rfl,by decide +kernel,by decide +kernel,rfl,(fun p hp => nomatch hp),by rfl,by decide +kernel,(fun p hp => nomatch hp),⟨rfl,rfl⟩,rfl⟩
    refine ⟨_,(pss_cons (ps_set (i := 1) S_law_fraction.nd rfl (Or.inl rfl) (pe_bm PySem.F.plainAttrs_str PySem.F.slot_str_split PySem.F.type_str_split mt_split (pv 0) (pa_cons pe_str pa_nil))) (pss_cons (ps_setCompA (j := 2) rfl CN S_law_fraction.nd rfl rfl (pi_list (pv 1)) (fun fp s₀ H₀ => (pe_fn F_law_whole_in (hr.mono (by decide)) (by rfl) (pa_cons (pv 0) pa_nil)))) (pss_cons (ps_if (pw_or (pt_cmpR op_in_seq pe_non (pv 2) (by rfl)) (pw_or1 (pt_cmpR op_gt (pe_callB call_len_seq (by rfl) T.z_len bt_len (pa_cons (pv 1) pa_nil)) pe_int (nomark _)))).pt (pss_one (ps_ret pe_non)) pss_nil) (pss_cons (ps_if (pt_cmpR op_eq (pe_callB call_len_seq (by rfl) T.z_len bt_len (pa_cons (pv 1) pa_nil)) pe_int (nomark _)) (pss_one (ps_ret (pe_tupA (pa_cons (pe_ix ix_list (pv 2) pe_int (fun _ _ => rfl)) (pa_cons pe_int pa_nil))))) pss_nil) (pss_cons (ps_if (pw_or (pt_cmpR op_lt (pe_ix ix_list (pv 2) pe_int (fun _ _ => rfl)) pe_int (nomark _)) (pw_or1 (pt_cmpR op_ne (pe_fn F_law_divisor (hr.mono (by decide)) (by rfl) (pa_cons (pe_ix ix_list (pv 2) pe_int (fun _ _ => rfl)) (pa_cons (pe_ix ix_list (pv 2) pe_int (fun _ _ => rfl)) pa_nil))) pe_int (nomark _)))).pt (pss_one (ps_ret pe_non)) pss_nil) (pss_one (ps_ret (pe_tupA (pa_cons (pe_ix ix_list (pv 2) pe_int (fun _ _ => rfl)) (pa_cons (pe_ix ix_list (pv 2) pe_int (fun _ _ => rfl)) pa_nil)))))))))),?_⟩
    have no : (∀ a b : Int,Wr a b → x ≠ showR a b) → ∀ H',Same H H' → Q .non H' := fun z H' s' => by
      rcases h with ⟨a,b,e,wr,_⟩ | ⟨_,k⟩
      · exact absurd e (z a b wr)
      · exact k H' s'
    have hsp : ∀ a b : Int,x = showR a b → Txt.split x (Str.ofString "/") = (parts a b).map num := fun a b e => by rw [e,split_showR]
    have hpl := PyProof.Rows.split_le x (Str.ofString "/")
    have hp1 := PyProof.Rows.split_pos x (Str.ofString "/")
    have hjo : Str.join ⟨#[47]⟩ (Txt.split x (Str.ofString "/")) = x := by
      rw [show Str.ofString "/" = (⟨#[47]⟩ : Str) from slash_one]
      exact StrLaws.join_split x _
    refine ⟨_,rfl,rfl,_,_,rfl,rfl,rfl,by omega,fun l1 H1 s1 f1 n1 => ?_⟩
    refine ⟨_,rfl,l1,rfl,⟨_,SqL.of f1⟩,comp_RB (SqL.of f1) (by rw [List.length_map]; omega) (fun i v H' => ∃ p o,(Txt.split x (Str.ofString "/"))[i]? = some p ∧ v = valOf o ∧ readO p o) (fun i v H H' _ z => z) ?_ ?_⟩
    · intro i y H2 Kc hx s2 kk
      rw [List.getElem?_map] at hx
      obtain ⟨pt,hp,rfl⟩ := Option.map_eq_some_iff.mp hx
      have hsz := split_len_le (List.mem_of_getElem? hp)
      by_cases hn : ∃ n : Int,pt = num n ∧ n.natAbs < 10 ^ 1000
      · obtain ⟨n,rfl,hn⟩ := hn
        exact ⟨_,rfl,num n,rfl,by omega,.inl ⟨n,rfl,hn,fun H3 s3 => kk _ _ s3 ⟨_,some n,hp,rfl,rfl,hn⟩⟩⟩
      · have hno : ∀ n : Int,n.natAbs < 10 ^ 1000 → pt ≠ num n := fun n hb e => hn ⟨n,e,hb⟩
        exact ⟨_,rfl,pt,rfl,by omega,.inr ⟨hno,fun H3 s3 => kk _ _ s3 ⟨_,none,hp,rfl,hno⟩⟩⟩
    · intro l ys H2 nl s2 f2 hly hr
      rw [List.length_map] at hly
      obtain ⟨os,ey,hol,hos⟩ := os_of hly hr
      subst ey
      have S2 := s1.trans s2
      refine ⟨_,rfl,l,_,rfl,.inl (SqL.of f2),rfl,vals_flat os,_,rfl,ite3 (fun c1 => ?_) (fun c1 => ?_)⟩
      · have c1 : none ∈ os := vals_none.mp c1
        refine iteT (no (fun a b w' e => ?_) H2 S2)
        obtain ⟨i,hi,eo⟩ := List.mem_iff_getElem.mp c1
        have hi2 : i < (Txt.split x (Str.ofString "/")).length := by omega
        have ro := hos i _ none (List.getElem?_eq_getElem hi2) (by rw [List.getElem?_eq_getElem hi,eo])
        have hm := List.getElem_mem hi2
        generalize (Txt.split x (Str.ofString "/"))[i] = q at ro hm
        rw [hsp a b e] at hm
        obtain ⟨n,hn2,e2⟩ := List.mem_map.mp hm
        exact ro n (parts_small w' n hn2) e2.symm
      have c1 : none ∉ os := fun z => by
        rw [show inV .non (os.map valOf) = true from vals_none.mpr z] at c1
        cases c1
      obtain ⟨ns,rfl⟩ := nums_of c1
      rw [List.length_map] at hol
      have e1 : Txt.split x (Str.ofString "/") = ns.map num := by
        apply List.ext_getElem?
        intro i
        rw [List.getElem?_map]
        cases hy : (Txt.split x (Str.ofString "/"))[i]? with
        | none =>
          have h2 := List.getElem?_eq_none_iff.mp hy
          rw [List.getElem?_eq_none (by omega)]
          rfl
        | some q =>
          have hi := (List.getElem?_eq_some_iff.mp hy).1
          have hin : i < ns.length := by omega
          have ro := hos i q (some ns[i]) hy (by rw [List.getElem?_map,List.getElem?_eq_getElem hin]; rfl)
          rw [List.getElem?_eq_getElem hin,ro.1]
          rfl
      have hsm : ∀ n ∈ ns,n.natAbs < 10 ^ 1000 := fun n hn => by
        obtain ⟨i,hi,eo⟩ := List.mem_iff_getElem.mp hn
        have ro := hos i (num n) (some n) (by rw [e1,List.getElem?_map,List.getElem?_eq_getElem hi,eo]; rfl) (by rw [List.getElem?_map,List.getElem?_eq_getElem hi,eo]; rfl)
        exact ro.2
      have hun : ∀ a' b',x = showR a' b' → ns = parts a' b' := fun a' b' e => map_num_inj (by rw [← e1,hsp a' b' e])
      rw [e1] at f1 hjo
      have fl : H2 l1 = some (.lst ((ns.map num).map V.str)) := s2 _ _ f1
      refine ⟨_,rfl,l1,_,rfl,.inl (SqL.of fl),_,_,rfl,rfl,_,rfl,ite3 (fun c2 => no (fun a b w' e => ?_) H2 S2) (fun c2 => ?_)⟩
      · have c2 : 2 < ((((ns.map num).map V.str).length : Nat) : Int) := by simpa using c2
        rw [List.length_map,List.length_map,hun a b e] at c2
        unfold parts at c2
        split at c2 <;> simp at c2 <;> omega
      have c2 : ¬ 2 < ((((ns.map num).map V.str).length : Nat) : Int) := by simpa using c2
      rw [List.length_map,List.length_map] at c2
      match ns,c2,hun,hsm,e1,hjo,f2,fl,hol with
      | [],_,_,_,e1,_,_,_,_ =>
        rw [e1] at hp1
        exact absurd hp1 (by decide)
      | [a],_,hun,hsm,_,hjo,f2,fl,_ =>
        have f2 : H2 l = some (.lst [.int a]) := f2
        have wr := wr_one (hsm a (by simp))
        refine ⟨_,rfl,l1,_,rfl,.inl (SqL.of fl),rfl,_,rfl,iteTrue (by simp) ?_⟩
        refine ⟨_,rfl,l,_,_,_,rfl,rfl,SqL.of f2,rfl,sz (by simp),fun t H3 s3 f3 n3 => ?_⟩
        rcases h with ⟨a',b',e,w',k⟩ | ⟨z,_⟩
        · obtain ⟨g1,g2⟩ := parts_of (hun a' b' e)
          have g1 : a = a' := g1
          have g2 : 1 = b' := g2
          subst g1 g2
          exact k t H3 (S2.trans s3) f3 (none_of_same S2 n3)
        · exact absurd hjo.symm (z a 1 wr)
      | [a,b],_,hun,hsm,_,hjo,f2,fl,_ =>
        have f2 : H2 l = some (.lst [.int a,.int b]) := f2
        have hun2 : ∀ a' b',Wr a' b' → x = showR a' b' → a = a' ∧ b = b' ∧ b ≠ 1 := fun a' b' w' e => by
          have z := hun a' b' e
          unfold parts at z
          split at z
          · simp at z
          · simp at z
            rename_i hb
            exact ⟨z.1,z.2,fun q => hb (by rw [← z.2,q])⟩
        refine ⟨_,rfl,l1,_,rfl,.inl (SqL.of fl),rfl,_,rfl,iteFalse (by simp) ?_⟩
        refine ⟨_,rfl,l,_,_,_,rfl,rfl,SqL.of f2,rfl,_,_,rfl,rfl,_,rfl,ite3 (fun c3 => iteT (no (fun a' b' w' e => ?_) H2 S2)) (fun c3 => ?_)⟩
        · have c3 : b < 2 := by simpa using c3
          obtain ⟨_,g2,g3⟩ := hun2 a' b' w' e
          have := w'.low.pos
          omega
        have c3 : ¬ b < 2 := by simpa using c3
        refine ⟨_,rfl,l,_,_,_,rfl,rfl,SqL.of f2,rfl,_,rfl,l,_,_,_,rfl,rfl,SqL.of f2,rfl,a,b,rfl,by omega,rfl,_,rfl,ite3 (fun c4 => no (fun a' b' w' e => ?_) H2 S2) (fun c4 => ?_)⟩
        · obtain ⟨rfl,rfl,_⟩ := hun2 a' b' w' e
          have c4 : ¬ (Int.gcd a b : Int) = 1 := by simpa using c4
          exact c4 (by rw [w'.low.one]; rfl)
        have c4 : (Int.gcd a b : Int) = 1 := by simpa using c4
        refine ⟨_,rfl,l,_,_,_,rfl,rfl,SqL.of f2,rfl,_,rfl,l,_,_,_,rfl,rfl,SqL.of f2,rfl,sz (by simp),fun t H3 s3 f3 n3 => ?_⟩
        have wr : Wr a b := ⟨⟨by omega,by omega⟩,hsm a (by simp),hsm b (by simp)⟩
        rcases h with ⟨a',b',e,w',k⟩ | ⟨z,_⟩
        · obtain ⟨rfl,rfl,_⟩ := hun2 a' b' w' e
          exact k t H3 (S2.trans s3) f3 (none_of_same S2 n3)
        · refine absurd ?_ (z a b wr)
          rw [showR_join,← hjo]
          unfold parts
          rw [if_neg (by omega)]
      | a :: b :: c :: r,c2,_,_,_,_,_,_,_ =>
        simp at c2
        omega
def refusedL : List V := [.str (Str.ofString "refused"),.bl true,.bl true,.bl false]
def dRef : D := .tup [.str (Str.ofString "refused"),.bl true,.bl true,.bl false]
theorem ref_rp {H : Hp} {r : Addr} (e : H r = some (.tup refusedL)) : Rp H 9 (.ref r) dRef := Rp.t4 e .str .bl .bl .bl
theorem showR_inj {a b a' b' : Int} (h : showR a b = showR a' b') : a = a' ∧ b = b' := by
  have e : (parts a b).map num = (parts a' b').map num := by rw [← split_showR,← split_showR,h]
  have e2 := map_num_inj e
  obtain ⟨h1,h2⟩ := parts_of (a := a) (b := b) rfl
  obtain ⟨h3,h4⟩ := parts_of e2
  exact ⟨h1.symm.trans h3,h2.symm.trans h4⟩
theorem blank_one : Str.ofString " " = ⟨#[32]⟩ := by decide +kernel
theorem num_no {n : Int} {c : Nat} (h : c ≠ 45 ∧ (c < 48 ∨ 57 < c)) : c ∉ (num n).cps.toList := fun hm => by
  have := num_signs n c hm
  omega
def spTwo (C : Addr) : Sp := fun vs H Q E => ∃ (x y : Str),vs = [.str x,.str y] ∧ (y.length == 0) = false ∧ x.length ≤ 60000 ∧
  ((∃ a b,Txt.split x y = [a,b] ∧ ∀ (l : Addr) (H' : Hp),Same H H' → H' l = some (.lst [.str a,.str b]) → Q (.ref l) H') ∨ ((∀ a b,Txt.split x y ≠ [a,b]) ∧ ∀ H',Same H H' → E (.ref C) none H'))
def colon : Str := Str.ofString ":"
theorem colon_one : colon = ⟨#[58]⟩ := by decide +kernel
abbrev R4 := (Int × Int) × (Int × Int)
def pairT (r : R4) : Str := showR r.1.1 r.1.2 ++ colon ++ showR r.2.1 r.2.2
def paperT (w y : Str) (rs : List R4) : Str := Str.join ⟨#[32]⟩ (w :: y :: rs.map pairT)
def Wr4 (r : R4) : Prop := Wr r.1.1 r.1.2 ∧ Wr r.2.1 r.2.2
theorem showR_no {a b : Int} {c : Nat} (h : c ≠ 45 ∧ c ≠ 47 ∧ (c < 48 ∨ 57 < c)) : c ∉ (showR a b).cps.toList := fun hm => by
  unfold showR at hm
  split at hm
  · exact num_no ⟨h.1,h.2.2⟩ hm
  · rw [app_list,app_list,slash_one] at hm
    rcases List.mem_append.mp hm with hm | hm
    · rcases List.mem_append.mp hm with hm | hm
      · exact num_no ⟨h.1,h.2.2⟩ hm
      · exact h.2.1 (List.mem_singleton.mp hm)
    · exact num_no ⟨h.1,h.2.2⟩ hm
theorem pair_cps (r : R4) : (pairT r).cps.toList = (showR r.1.1 r.1.2).cps.toList ++ 58 :: (showR r.2.1 r.2.2).cps.toList := by
  unfold pairT
  rw [app_list,app_list,colon_one,List.append_assoc]
  rfl
theorem split_pair (r : R4) : Txt.split (pairT r) colon = [showR r.1.1 r.1.2,showR r.2.1 r.2.2] := by
  rw [colon_one]
  have e : pairT r = Str.join ⟨#[58]⟩ [showR r.1.1 r.1.2,showR r.2.1 r.2.2] := by
    unfold pairT
    rw [colon_one]
    rfl
  rw [e]
  refine split_of (by simp) fun q hq => ?_
  simp only [List.mem_cons,List.not_mem_nil,or_false] at hq
  rcases hq with rfl | rfl <;> exact showR_no (by decide)
theorem pair_inj {r s : R4} (h : pairT r = pairT s) : r = s := by
  have e : [showR r.1.1 r.1.2,showR r.2.1 r.2.2] = [showR s.1.1 s.1.2,showR s.2.1 s.2.2] := by rw [← split_pair,← split_pair,h]
  simp only [List.cons.injEq,and_true] at e
  obtain ⟨e1,e2⟩ := showR_inj e.1
  obtain ⟨e3,e4⟩ := showR_inj e.2
  exact Prod.ext (Prod.ext e1 e2) (Prod.ext e3 e4)
theorem pair_noblank (r : R4) : 32 ∉ (pairT r).cps.toList := by
  rw [pair_cps]
  intro h
  rcases List.mem_append.mp h with h | h
  · exact showR_no (by decide) h
  · rcases List.mem_cons.mp h with h | h
    · cases h
    · exact showR_no (by decide) h
theorem map_pair_inj : ∀ {as bs : List R4},as.map pairT = bs.map pairT → as = bs
  | [],[],_ => rfl
  | [],_ :: _,h => by simp at h
  | _ :: _,[],h => by simp at h
  | a :: as,b :: bs,h => by
    simp only [List.map_cons,List.cons.injEq] at h
    rw [pair_inj h.1,map_pair_inj h.2]
def wordsL : List Str := [Str.ofString "walk",Str.ofString "fence"]
def waysL : List Str := [Str.ofString "on",Str.ofString "part",Str.ofString "free",Str.ofString "hops"]
theorem words_noblank : ∀ w ∈ wordsL,32 ∉ w.cps.toList := by decide +kernel
theorem ways_noblank : ∀ w ∈ waysL,32 ∉ w.cps.toList := by decide +kernel
structure OkP (w y : Str) (rs : List R4) : Prop where
  word : w ∈ wordsL
  way : y ∈ waysL
  one : 1 ≤ rs.length
  most : rs.length ≤ 200
  prs : ∀ r ∈ rs,Wr4 r
theorem split_paper {w y : Str} {rs : List R4} (hw : w ∈ wordsL) (hy : y ∈ waysL) : Txt.split (paperT w y rs) (Str.ofString " ") = w :: y :: rs.map pairT := by
  rw [blank_one]
  refine split_of (by simp) fun q hq => ?_
  rcases List.mem_cons.mp hq with rfl | hq
  · exact words_noblank _ hw
  · rcases List.mem_cons.mp hq with rfl | hq
    · exact ways_noblank _ hy
    · obtain ⟨c,_,rfl⟩ := List.mem_map.mp hq
      exact pair_noblank c
theorem paper_inj {w y w' y' : Str} {rs rs' : List R4} (h1 : OkP w y rs) (h2 : OkP w' y' rs') (h : paperT w y rs = paperT w' y' rs') : w = w' ∧ y = y' ∧ rs = rs' := by
  have e : w :: y :: rs.map pairT = w' :: y' :: rs'.map pairT := by rw [← split_paper h1.word h1.way,← split_paper h2.word h2.way,h]
  simp only [List.cons.injEq] at e
  exact ⟨e.1,e.2.1,map_pair_inj e.2.2⟩
def PrT (H : Hp) (v : V) (r : R4) : Prop := ∃ p a b,v = .ref p ∧ H p = some (.tup [.ref a,.ref b]) ∧ H a = some (.tup [.int r.1.1,.int r.1.2]) ∧ H b = some (.tup [.int r.2.1,.int r.2.2])
theorem PrT.t {H H' : Hp} {v : V} {r : R4} (h : PrT H v r) (s : SameT H H') : PrT H' v r := by
  obtain ⟨p,a,b,e,e1,e2,e3⟩ := h
  exact ⟨p,a,b,e,s _ _ e1,s _ _ e2,s _ _ e3⟩
structure Prs (H : Hp) (l : Addr) (qs : List (V × R4)) : Prop where
  lst : H l = some (.lst (qs.map (·.1)))
  prs : ∀ q ∈ qs,PrT H q.1 q.2
theorem Prs.mono {H H' : Hp} {l : Addr} {qs : List (V × R4)} (L : Prs H l qs) (s : Same H H') : Prs H' l qs := ⟨s _ _ L.lst,fun q h => (L.prs q h).t s.t⟩
def spShP : Sp := fun vs H Q _ => ∃ (v : V) (r : R4),vs = [v] ∧ PrT H v r ∧ Wr4 r ∧ Q (.str (pairT r)) H
def spReadP (C : Addr) : Sp := fun vs H Q E => ∃ x : Str,vs = [.str x] ∧ x.length ≤ 60000 ∧
  ((∃ r,x = pairT r ∧ Wr4 r ∧ ∀ (v : V) (H' : Hp),Same H H' → PrT H' v r → Q v H') ∨ ((∀ r,Wr4 r → x ≠ pairT r) ∧ ∀ H',Same H H' → E (.ref C) none H'))
theorem S_two_parts : FnScope ["text","sign","parts"] ["text","sign"] (defScope (top 24)) := ⟨rfl,rfl,rfl,by decide +kernel,rfl,by decide +kernel,by decide +kernel⟩
theorem fn_two_parts {C : Addr} (D_two_parts : Df K mg "two_parts" (top 24)) (O_NoText : ExcC K mg "NoText" C) (T : Txt mg) : Fx P w K mg base "two_parts" ["text","sign"] 1 [] (spTwo C) := by
  refine D_two_parts.fx S_two_parts (fun _ _ _ _ _ _ us hl => match us,hl with | [_,_],_ => rfl) (fun vs H Q E h => ?_) (fun f cdv A outer s H vs Q E hr h => ?_)
  · obtain ⟨x,y,rfl,_⟩ := h
    rfl
  · obtain ⟨x,y,rfl,hy,hl,h⟩ := h
    refine ⟨_,(pss_cons (ps_set (i := 2) S_two_parts.nd rfl (Or.inl rfl) (pe_bm PySem.F.plainAttrs_str PySem.F.slot_str_split PySem.F.type_str_split mt_split (pv 0) (pa_cons (pv 1) pa_nil))) (pss_cons (ps_if (pt_cmpR op_ne (pe_callB call_len_seq (by rfl) T.z_len bt_len (pa_cons (pv 2) pa_nil)) pe_int (nomark _)) (pss_one (ps_raise O_NoText (by rfl))) pss_nil) (pss_one (ps_ret (pv 2))))),?_⟩
    have hpl := PyProof.Rows.split_le x y
    refine ⟨_,rfl,rfl,_,rfl,x,y,rfl,rfl,hy,by omega,fun l1 H1 s1 f1 n1 => ?_⟩
    refine ⟨_,rfl,l1,_,rfl,.inl (SqL.of f1),rfl,_,rfl,ite3 (fun c1 => ?_) (fun c1 => ?_)⟩
    · rcases h with ⟨a,b,e,_⟩ | ⟨_,k⟩
      · rw [e] at c1
        simp at c1
      · exact k H1 s1
    · have c1 : ((Txt.split x y).map V.str).length = 2 := by
        have : ((((Txt.split x y).map V.str).length : Nat) : Int) = 2 := by simpa using c1
        omega
      rw [List.length_map] at c1
      obtain ⟨a,b,e⟩ := len2 c1
      refine ⟨_,rfl,?_⟩
      rcases h with ⟨a',b',e',k⟩ | ⟨z,_⟩
      · rw [e'] at f1
        exact k l1 H1 s1 f1
      · exact absurd e (z a b)
theorem S_show_pair : FnScope ["pair","x","y"] ["pair"] (defScope (top 20)) := ⟨rfl,rfl,rfl,by decide +kernel,rfl,by decide +kernel,by decide +kernel⟩
theorem fn_show_pair (D_show_pair : Df K mg "show_pair" (top 20)) (DG : Dig K) (F_show_ratio : Fn P w K mg base "show_ratio" ["a"] 1 spShow) : Fn P w K mg base "show_pair" ["pair"] 2 spShP := by
  refine D_show_pair.fn S_show_pair (fun _ _ _ _ _ _ us hl => match us,hl with | [_],_ => rfl) (fun vs H Q E h => ?_) (fun f cdv A outer s H vs Q E hr h => ?_)
  · obtain ⟨v,r,rfl,_⟩ := h
    rfl
  · obtain ⟨v,r,rfl,⟨p,a,b,rfl,e,e1,e2⟩,⟨w1,w2⟩,q⟩ := h
    refine ⟨_,(pss_cons (ps_set (i := 1) S_show_pair.nd rfl (Or.inl rfl) (pe_fn F_show_ratio (hr.mono (by decide)) (by rfl) (pa_cons (pe_ix ix_tup (pv 0) pe_int (fun _ _ => rfl)) pa_nil))) (pss_cons (ps_set (i := 2) S_show_pair.nd rfl (Or.inl rfl) (pe_fn F_show_ratio (hr.mono (by decide)) (by rfl) (pa_cons (pe_ix ix_tup (pv 0) pe_int (fun _ _ => rfl)) pa_nil))) (pss_one (ps_ret (pe_join3 (pe_fmt (K := K) rfl DG rfl (pv 1)) pe_str (pe_fmt (K := K) rfl DG rfl (pv 2))))))),?_⟩
    have za := showR_len w1.top w1.bot
    have zb := showR_len w2.top w2.bot
    have zs : (Str.ofString ":").length = 1 := rfl
    refine ⟨_,rfl,p,_,_,_,rfl,rfl,SqT.of e,rfl,a,_,_,rfl,e1,w1.dg,?_⟩
    refine ⟨_,rfl,p,_,_,_,rfl,rfl,SqT.of e,rfl,b,_,_,rfl,e2,w2.dg,?_⟩
    exact ⟨_,rfl,.inr ⟨_,rfl,line_sz (by omega),_,rfl,line_sz (by omega),_,rfl,line_sz (by omega),_,rfl,.inr ⟨_,rfl,line_sz (by omega),_,rfl,line_sz (by omega),q⟩⟩⟩
theorem S_read_pair : FnScope ["text","parts"] ["text"] (defScope (top 25)) := ⟨rfl,rfl,rfl,by decide +kernel,rfl,by decide +kernel,by decide +kernel⟩
theorem fn_read_pair {C : Addr} (D_read_pair : Df K mg "read_pair" (top 25)) (F_two_parts : Fx P w K mg base "two_parts" ["text","sign"] 1 [] (spTwo C)) (F_read_ratio : Fx P w K mg base "read_ratio" ["text"] 3 [] (spReadRX C)) : Fx P w K mg base "read_pair" ["text"] 4 [] (spReadP C) := by
  refine D_read_pair.fx S_read_pair (fun _ _ _ _ _ _ us hl => match us,hl with | [_],_ => rfl) (fun vs H Q E h => ?_) (fun f cdv A outer s H vs Q E hr h => ?_)
  · obtain ⟨x,rfl,_⟩ := h
    rfl
  · obtain ⟨x,rfl,hl,h⟩ := h
    refine ⟨_,(pss_cons (ps_set (i := 1) S_read_pair.nd rfl (Or.inl rfl) (pe_fx F_two_parts (hr.mono (by decide)) (by rfl) (pa_cons (pv 0) (pa_cons pe_str pa_nil)))) (pss_one (ps_ret (pe_tupA (pa_cons (pe_fx F_read_ratio (hr.mono (by decide)) (by rfl) (pa_cons (pe_ix ix_list (pv 1) pe_int (fun _ _ => rfl)) pa_nil)) (pa_cons (pe_fx F_read_ratio (hr.mono (by decide)) (by rfl) (pa_cons (pe_ix ix_list (pv 1) pe_int (fun _ _ => rfl)) pa_nil)) pa_nil)))))),?_⟩
    have no : (∀ r,Wr4 r → x ≠ pairT r) → ∀ H',Same H H' → E (.ref C) none H' := fun z H' s' => by
      rcases h with ⟨c,e,th,_⟩ | ⟨_,k⟩
      · exact absurd e (z c th)
      · exact k H' s'
    have hjo := StrLaws.join_split x colon
    have yl : (colon.length == 0) = false := rfl
    by_cases hsp : ∃ a b,Txt.split x colon = [a,b]
    · obtain ⟨a,b,e⟩ := hsp
      have la : a.length ≤ x.length := PyProof.Rows.part_short (x := x) (y := colon) (by rw [e]; simp)
      have lb : b.length ≤ x.length := PyProof.Rows.part_short (x := x) (y := colon) (by rw [e]; simp)
      refine ⟨_,rfl,x,colon,rfl,yl,hl,.inl ⟨a,b,e,fun l H1 s1 f1 => ?_⟩⟩
      refine ⟨_,rfl,l,_,_,_,rfl,rfl,SqL.of f1,rfl,a,rfl,by omega,?_⟩
      by_cases ha : ∃ m n : Int,a = showR m n ∧ Wr m n
      · obtain ⟨m,n,rfl,w1⟩ := ha
        refine .inl ⟨m,n,rfl,w1,fun p2 H2 s2 f2 n2 => ?_⟩
        refine ⟨_,rfl,l,_,_,_,rfl,rfl,SqL.of (s2 _ _ f1),rfl,b,rfl,by omega,?_⟩
        by_cases hb : ∃ m n : Int,b = showR m n ∧ Wr m n
        · obtain ⟨m',n',rfl,w2⟩ := hb
          refine .inl ⟨m',n',rfl,w2,fun p3 H3 s3 f3 n3 => ⟨sz (by simp),fun p H4 s4 f4 n4 => ?_⟩⟩
          have S3 := s1.trans (s2.trans s3)
          have ex : x = pairT ((m,n),(m',n')) := by
            rw [← hjo,e]
            unfold pairT
            rw [colon_one]
            rfl
          rcases h with ⟨c,e',th,k⟩ | ⟨z,_⟩
          · have := pair_inj (ex.symm.trans e')
            subst this
            exact k (.ref p) H4 (S3.trans s4) ⟨p,p2,p3,rfl,f4,s4 _ _ (s3 _ _ f2),s4 _ _ f3⟩
          · exact absurd ex (z ((m,n),(m',n')) ⟨w1,w2⟩)
        · refine .inr ⟨fun m n hm e2 => hb ⟨m,n,e2,hm⟩,fun H3 s3 => no (fun c th e' => ?_) H3 (s1.trans (s2.trans s3))⟩
          rw [e',split_pair] at e
          simp only [List.cons.injEq,and_true] at e
          exact hb ⟨_,_,e.2.symm,th.2⟩
      · refine .inr ⟨fun m n hm e2 => ha ⟨m,n,e2,hm⟩,fun H3 s3 => no (fun c th e' => ?_) H3 (s1.trans s3)⟩
        rw [e',split_pair] at e
        simp only [List.cons.injEq,and_true] at e
        exact ha ⟨_,_,e.1.symm,th.1⟩
    · refine ⟨_,rfl,x,colon,rfl,yl,hl,.inr ⟨fun a b e => hsp ⟨a,b,e⟩,fun H1 s1 => no (fun c th e' => ?_) H1 s1⟩⟩
      exact hsp ⟨_,_,by rw [e',split_pair]⟩
def catScope (s : Stmt) : Scope := match s with
  | .Return (some (.Call _ [.BinOp _ _ (.ListComp _ _ sc _) _] _ _)) _ => sc
  | _ => { kind := .function,names := [],isGenerator := false,isCoroutine := false }
def Ok4 (r : R4) : Prop := Wr4 r ∧ (pairT r).length ≤ 249
def spShPp : Sp := fun vs H Q _ => ∃ (w y : Str) (l : Addr) (qs : List (V × R4)),vs = [.str w,.str y,.ref l] ∧ Prs H l qs ∧ qs.length ≤ 200 ∧ (∀ q ∈ qs,Ok4 q.2) ∧ (w.length ≤ 5 ∧ y.length ≤ 5) ∧ ∀ H',Same H H' → Q (.str (paperT w y (qs.map (·.2)))) H'
theorem strs_ofP {qs : List (V × R4)} {ys : List V} (hl : ys.length = (qs.map (·.1)).length) (hr : ∀ (i : Nat) y,ys[i]? = some y → ∃ q,qs[i]? = some q ∧ y = .str (pairT q.2)) : ys = ((qs.map (·.2)).map pairT).map V.str := by
  rw [List.length_map] at hl
  apply List.ext_getElem?
  intro i
  rw [List.map_map,List.map_map,List.getElem?_map]
  cases hy : ys[i]? with
  | none =>
    have := List.getElem?_eq_none_iff.mp hy
    rw [List.getElem?_eq_none (by omega)]
    rfl
  | some y =>
    obtain ⟨q,hq,rfl⟩ := hr i y hy
    rw [hq]
    rfl
theorem paper_sum {w y : Str} {rs : List R4} (h : ∀ r ∈ rs,(pairT r).length ≤ 249) (hl : rs.length ≤ 200) (hw : w.length ≤ 5 ∧ y.length ≤ 5) : ((w :: y :: rs.map pairT).map fun x => x.length).sum ≤ 49810 := by
  have h2 := StrLaws.sumLen_le (B := 249) (rs.map pairT) fun y hy => by
    obtain ⟨c,hc,rfl⟩ := List.mem_map.mp hy
    exact h c hc
  rw [List.length_map] at h2
  simp only [List.map_cons,List.sum_cons]
  omega
theorem paper_len {w y : Str} {rs : List R4} (h : ∀ r ∈ rs,(pairT r).length ≤ 249) (hl : rs.length ≤ 200) (hw : w.length ≤ 5 ∧ y.length ≤ 5) : (paperT w y rs).length ≤ 50012 := by
  have h1 := StrLaws.join_length_le ⟨#[32]⟩ (w :: y :: rs.map pairT)
  have h2 := paper_sum h hl hw
  have h3 : (⟨#[32]⟩ : Str).length = 1 := rfl
  have h4 : (w :: y :: rs.map pairT).length ≤ 202 := by simp; omega
  rw [h3] at h1
  unfold paperT
  omega
theorem paper_join {w y : Str} {rs : List R4} : Txt.join (Str.ofString " ") (w :: y :: rs.map pairT) = paperT w y rs := by
  rw [blank_one]
  exact StrLaws.glued_eq_join _ _
theorem S_show_paper : FnScope ["word","way","pairs"] ["word","way","pairs"] (defScope (top 21)) := ⟨rfl,rfl,rfl,by decide +kernel,rfl,by decide +kernel,by decide +kernel⟩
theorem fn_show_paper (D_show_paper : Df K mg "show_paper" (top 21)) (F_show_pair : Fn P w K mg base "show_pair" ["pair"] 2 spShP) : Fn P w K mg base "show_paper" ["word","way","pairs"] 3 spShPp := by
  refine D_show_paper.fn S_show_paper (fun _ _ _ _ _ _ us hl => match us,hl with | [_,_,_],_ => rfl) (fun vs H Q E h => ?_) (fun f cdv A outer s H vs Q E hr h => ?_)
  · obtain ⟨wd,wy,l,qs,rfl,_⟩ := h
    rfl
  · obtain ⟨wd,wy,l,qs,rfl,L,hl,hs,hwy,q⟩ := h
    have CN : CompN (cxOf CX0 P w K mg base ["word","way","pairs"] "show_paper" (defScope (top 21)) f cdv A outer s H E).nox (catScope ((defBody (top 21)).getD 0 (.Pass ⟨0,0,0,0⟩))) [] "pair" [] :=
      ⟨by rfl,rfl,by decide +kernel,by decide +kernel,rfl,(fun p hp => nomatch hp),by rfl,by decide +kernel,(fun p hp => nomatch hp),⟨rfl,rfl⟩,rfl⟩
    refine ⟨_,(pss_one (ps_ret (pe_bm PySem.F.plainAttrs_str PySem.F.slot_str_join PySem.F.type_str_join mt_join pe_str (pa_cons (pe_op op_catA (pe_lstA (pa_cons (pv 0) (pa_cons (pv 1) pa_nil))) (pe_compA rfl CN (pi_list (pv 2)) (fun fp s₀ H₀ => (pe_fn F_show_pair (hr.mono (by decide)) (by rfl) (pa_cons (pv 0) pa_nil))))) pa_nil)))),?_⟩
    refine ⟨rfl,_,rfl,_,rfl,sz (by simp),fun l1 H1 s1 f1 n1 => ?_⟩
    have L1 := L.mono s1
    refine ⟨_,rfl,l,rfl,⟨_,SqL.of L1.lst⟩,comp_R (SqL.of L1.lst) (by rw [List.length_map]; omega) (fun i v H' => ∃ q,qs[i]? = some q ∧ v = .str (pairT q.2)) (fun i v H H' _ z => z) ?_ ?_⟩
    · intro i y H2 Kc hx s2 kk
      rw [List.getElem?_map] at hx
      obtain ⟨q',hq,rfl⟩ := Option.map_eq_some_iff.mp hx
      have hm := List.mem_of_getElem? hq
      have c1 := (L1.mono s2).prs q' hm
      have c2 := (hs q' hm).1
      exact ⟨_,rfl,q'.1,q'.2,rfl,c1,c2,kk _ _ (Same.refl _) ⟨q',hq,rfl⟩⟩
    · intro l2 ys H2 nl s2 f2 hly hr
      have ey := strs_ofP hly hr
      subst ey
      have hs2 : ∀ c ∈ qs.map (·.2),(pairT c).length ≤ 249 := fun c hc => by
        obtain ⟨q',hq,rfl⟩ := List.mem_map.mp hc
        exact (hs q' hq).2
      have hz := paper_sum hs2 (by rw [List.length_map]; exact hl) hwy
      refine ⟨l1,l2,_,_,rfl,rfl,s2 _ _ f1,f2,sz (by simp; omega),fun l3 H3 s3 f3 n3 => ?_⟩
      have f3 : H3 l3 = some (.lst ((wd :: wy :: (qs.map (·.2)).map pairT).map V.str)) := f3
      refine ⟨_,l3,_,rfl,rfl,SqL.of f3,?_,?_⟩
      · have h3 : (Str.ofString " ").length = 1 := rfl
        have h4 : (wd :: wy :: (qs.map (·.2)).map pairT).length ≤ 202 := by simp; omega
        rw [h3]
        omega
      rw [paper_join]
      exact q H3 (s1.trans (s2.trans s3))
theorem S_law_paper_text : FnScope ["word","way","pairs"] ["word","way","pairs"] (defScope (top 42)) := ⟨rfl,rfl,rfl,by decide +kernel,rfl,by decide +kernel,by decide +kernel⟩
theorem fn_law_paper_text (D_law_paper_text : Df K mg "_law_paper_text" (top 42)) (F_law_shown : Fn P w K mg base "_law_shown" ["a"] 1 spShow) : Fn P w K mg base "_law_paper_text" ["word","way","pairs"] 2 spShPp := by
  refine D_law_paper_text.fn S_law_paper_text (fun _ _ _ _ _ _ us hl => match us,hl with | [_,_,_],_ => rfl) (fun vs H Q E h => ?_) (fun f cdv A outer s H vs Q E hr h => ?_)
  · obtain ⟨wd,wy,l,qs,rfl,_⟩ := h
    rfl
  · obtain ⟨wd,wy,l,qs,rfl,L,hl,hs,hwy,q⟩ := h
    have CN : CompN (cxOf CX0 P w K mg base ["word","way","pairs"] "_law_paper_text" (defScope (top 42)) f cdv A outer s H E).nox (catScope ((defBody (top 42)).getD 0 (.Pass ⟨0,0,0,0⟩))) [] "pair" [] :=
      ⟨by rfl,rfl,by decide +kernel,by decide +kernel,rfl,(fun p hp => nomatch hp),by rfl,by decide +kernel,(fun p hp => nomatch hp),⟨rfl,rfl⟩,rfl⟩
    refine ⟨_,(pss_one (ps_ret (pe_bm PySem.F.plainAttrs_str PySem.F.slot_str_join PySem.F.type_str_join mt_join pe_str (pa_cons (pe_op op_catA (pe_lstA (pa_cons (pv 0) (pa_cons (pv 1) pa_nil))) (pe_compA rfl CN (pi_list (pv 2)) (fun fp s₀ H₀ => (pe_op op_add_str (pe_op op_add_str (pe_fn F_law_shown (hr.mono (by decide)) (by rfl) (pa_cons (pe_ix (ix_tupK (K := K) rfl) (pv 0) pe_int (fun _ _ => rfl)) pa_nil)) pe_str) (pe_fn F_law_shown (hr.mono (by decide)) (by rfl) (pa_cons (pe_ix (ix_tupK (K := K) rfl) (pv 0) pe_int (fun _ _ => rfl)) pa_nil)))))) pa_nil)))),?_⟩
    refine ⟨rfl,_,rfl,_,rfl,sz (by simp),fun l1 H1 s1 f1 n1 => ?_⟩
    have L1 := L.mono s1
    refine ⟨_,rfl,l,rfl,⟨_,SqL.of L1.lst⟩,comp_R (SqL.of L1.lst) (by rw [List.length_map]; omega) (fun i v H' => ∃ q,qs[i]? = some q ∧ v = .str (pairT q.2)) (fun i v H H' _ z => z) ?_ ?_⟩
    · intro i y H2 Kc hx s2 kk
      rw [List.getElem?_map] at hx
      obtain ⟨q',hq,rfl⟩ := Option.map_eq_some_iff.mp hx
      have hm := List.mem_of_getElem? hq
      have c1 := (L1.mono s2).prs q' hm
      have c2 := (hs q' hm).1
      obtain ⟨p,a,b,e0,e,e1,e2⟩ := c1
      obtain ⟨w1,w2⟩ := c2
      have za := showR_len w1.top w1.bot
      have zb := showR_len w2.top w2.bot
      have zs : (Str.ofString ":").length = 1 := rfl
      refine ⟨_,rfl,p,_,_,_,e0,rfl,SqT.of e,rfl,a,_,_,rfl,e1,w1.dg,_,_,rfl,rfl,line_sz (by omega),?_⟩
      exact ⟨_,rfl,p,_,_,_,e0,rfl,SqT.of e,rfl,b,_,_,rfl,e2,w2.dg,_,_,rfl,rfl,line_sz (by rw [Str.length_append]; omega),kk _ _ (Same.refl _) ⟨q',hq,rfl⟩⟩
    · intro l2 ys H2 nl s2 f2 hly hr
      have ey := strs_ofP hly hr
      subst ey
      have hs2 : ∀ c ∈ qs.map (·.2),(pairT c).length ≤ 249 := fun c hc => by
        obtain ⟨q',hq,rfl⟩ := List.mem_map.mp hc
        exact (hs q' hq).2
      have hz := paper_sum hs2 (by rw [List.length_map]; exact hl) hwy
      refine ⟨l1,l2,_,_,rfl,rfl,s2 _ _ f1,f2,sz (by simp; omega),fun l3 H3 s3 f3 n3 => ?_⟩
      have f3 : H3 l3 = some (.lst ((wd :: wy :: (qs.map (·.2)).map pairT).map V.str)) := f3
      refine ⟨_,l3,_,rfl,rfl,SqL.of f3,?_,?_⟩
      · have h3 : (Str.ofString " ").length = 1 := rfl
        have h4 : (wd :: wy :: (qs.map (·.2)).map pairT).length ≤ 202 := by simp; omega
        rw [h3]
        omega
      rw [paper_join]
      exact q H3 (s1.trans (s2.trans s3))
def tupScope (s : Stmt) : Scope := match s with
  | .Return (some (.Tuple [_,_,.ListComp _ _ sc _] _ _)) _ => sc
  | _ => { kind := .function,names := [],isGenerator := false,isCoroutine := false }
theorem inV_strs {x : Str} {ws : List Str} : inV (.str x) (ws.map V.str) = decide (x ∈ ws) := by
  induction ws with
  | nil => rfl
  | cons a ws ih =>
    have e : inV (.str x) ((a :: ws).map V.str) = ((a == x) || inV (.str x) (ws.map V.str)) := rfl
    rw [e,ih,Bool.eq_iff_iff]
    simp only [Bool.or_eq_true,beq_iff_eq,decide_eq_true_eq,List.mem_cons]
    exact ⟨fun h => h.imp Eq.symm id,fun h => h.imp Eq.symm id⟩
theorem cut2 {a b : V} {xs : List V} : cutV (a :: b :: xs) (some 2) none = xs := by
  unfold cutV HT.sIx
  simp
theorem flat_strs (ws : List Str) : (ws.map V.str).all flatV = true := by
  rw [List.all_eq_true]
  intro v hv
  obtain ⟨o,_,rfl⟩ := List.mem_map.mp hv
  rfl
theorem prs_of : ∀ {ws : List Str} {ys : List V} {H : Hp},ys.length = ws.length → (∀ (i : Nat) y,ys[i]? = some y → ∃ r,ws[i]? = some (pairT r) ∧ Wr4 r ∧ PrT H y r) →
    ∃ qs : List (V × R4),ys = qs.map (·.1) ∧ ws = (qs.map (·.2)).map pairT ∧ ∀ q ∈ qs,PrT H q.1 q.2 ∧ Wr4 q.2
  | [],[],_,_,_ => ⟨[],rfl,rfl,fun _ h => nomatch h⟩
  | [],_ :: _,_,h,_ => by simp at h
  | _ :: _,[],_,h,_ => by simp at h
  | w :: ws,y :: ys,H,h,hr => by
    obtain ⟨rs,e1,e2,e3⟩ := prs_of (ws := ws) (ys := ys) (H := H) (by simpa using h) fun i y hy => by simpa using hr (i + 1) y (by simpa using hy)
    obtain ⟨r,ew,wr,ep⟩ := hr 0 y rfl
    cases ew
    refine ⟨(y,r) :: rs,by rw [e1]; rfl,by rw [e2]; rfl,fun q hq => ?_⟩
    rcases List.mem_cons.mp hq with rfl | hq
    · exact ⟨ep,wr⟩
    · exact e3 q hq
def Pap (H : Hp) (p : Addr) (w y : Str) (rs : List R4) : Prop := ∃ l qs,H p = some (.tup [.str w,.str y,.ref l]) ∧ Prs H l qs ∧ qs.map (·.2) = rs
theorem Pap.mono {H H' : Hp} {p : Addr} {w y : Str} {rs : List R4} (h : Pap H p w y rs) (s : Same H H') : Pap H' p w y rs := by
  obtain ⟨l,qs,e,L,e2⟩ := h
  exact ⟨l,qs,s _ _ e,L.mono s,e2⟩
def spReadPp (C : Addr) : Sp := fun vs H Q E => ∃ x : Str,vs = [.str x] ∧ x.length ≤ 60000 ∧
  ((∃ w y rs,x = paperT w y rs ∧ OkP w y rs ∧ ∀ (p : Addr) (H' : Hp),Same H H' → Pap H' p w y rs → Q (.ref p) H') ∨ ((∀ w y rs,OkP w y rs → x ≠ paperT w y rs) ∧ ∀ H',Same H H' → E (.ref C) none H'))
theorem at_one {α : Type} (x y : α) (xs : List α) : atI (x :: y :: xs) 1 = some y := by
  unfold atI ixN
  rw [if_pos (by decide),if_pos (by simp only [List.length_cons]; omega)]
  rfl
theorem three {ws : List Str} (h : 3 ≤ ws.length) : ∃ a b c r,ws = a :: b :: c :: r := match ws,h with
  | a :: b :: c :: r,_ => ⟨a,b,c,r,rfl⟩
theorem S_read_paper : FnScope ["text","words"] ["text"] (defScope (top 26)) := ⟨rfl,rfl,rfl,by decide +kernel,rfl,by decide +kernel,by decide +kernel⟩
theorem fn_read_paper {C pW pP : Addr} (D_read_paper : Df K mg "read_paper" (top 26)) (O_NoText : ExcC K mg "NoText" C) (V_MOSTP : ∃ tk,mg "MOST_PAIRS" = some (.int 200 tk)) (G_WAYS : mg "WAYS" = some (.ref pW)) (hW : ∀ H,SqT K H pW (waysL.map V.str)) (G_PAPERS : mg "PAPERS" = some (.ref pP)) (hP : ∀ H,SqT K H pP (wordsL.map V.str)) (F_read_pair : Fx P w K mg base "read_pair" ["text"] 4 [] (spReadP C)) (T : Txt mg) : Fx P w K mg base "read_paper" ["text"] 5 [] (spReadPp C) := by
  refine D_read_paper.fx S_read_paper (fun _ _ _ _ _ _ us hl => match us,hl with | [_],_ => rfl) (fun vs H Q E h => ?_) (fun f cdv A outer s H vs Q E hr h => ?_)
  · obtain ⟨x,rfl,_⟩ := h
    rfl
  · obtain ⟨x,rfl,hl,h⟩ := h
    obtain ⟨tM,G_MOST_PAIRS⟩ := V_MOSTP
    have CN : CompN (cxOf (CXE P w) P w K mg base ["text","words"] "read_paper" (defScope (top 26)) f cdv A outer s H E) (tupScope ((defBody (top 26)).getD 2 (.Pass ⟨0,0,0,0⟩))) [] "word" [] :=
      ⟨by rfl,rfl,by decide +kernel,by decide +kernel,rfl,(fun p hp => nomatch hp),by rfl,by decide +kernel,(fun p hp => nomatch hp),⟨rfl,rfl⟩,rfl⟩
    refine ⟨_,(pss_cons (ps_set (i := 1) S_read_paper.nd rfl (Or.inl rfl) (pe_bm PySem.F.plainAttrs_str PySem.F.slot_str_split PySem.F.type_str_split mt_split (pv 0) (pa_cons pe_str pa_nil))) (pss_cons (ps_if (pw_or (pt_not (pt_chain op_le op_le pe_int (pe_callB call_len_seq (by rfl) T.z_len bt_len (pa_cons (pv 1) pa_nil)) (pe_op op_add (pe_glob (v := .int 200) (by rfl) G_MOST_PAIRS ⟨_,rfl⟩) pe_int))) (pw_or (pt_cmpR op_notIn_seq (pe_ix ix_list (pv 1) pe_int (fun _ _ => rfl)) (pe_glob (v := .ref _) (by rfl) G_PAPERS rfl) (by rfl)) (pw_or1 (pt_cmpR op_notIn_seq (pe_ix ix_list (pv 1) pe_int (fun _ _ => rfl)) (pe_glob (v := .ref _) (by rfl) G_WAYS rfl) (by rfl))))).pt (pss_one (ps_raise O_NoText (by rfl))) pss_nil) (pss_one (ps_ret (pe_tupA (pa_cons (pe_ix ix_list (pv 1) pe_int (fun _ _ => rfl)) (pa_cons (pe_ix ix_list (pv 1) pe_int (fun _ _ => rfl)) (pa_cons (pe_compX CN (pi_list (pe_slice sl_listA (pv 1) (po_some pe_int) po_none)) (fun fp s₀ H₀ => (pe_fxB F_read_pair (hr.mono (by decide)) (by rfl) (pa_cons (pv 0) pa_nil)))) pa_nil)))))))),?_⟩
    have no : (∀ w y rs,OkP w y rs → x ≠ paperT w y rs) → ∀ H',Same H H' → E (.ref C) none H' := fun z H' s' => by
      rcases h with ⟨a,b,c,e,th,_⟩ | ⟨_,k⟩
      · exact absurd e (z a b c th)
      · exact k H' s'
    have hpl := PyProof.Rows.split_le x (Str.ofString " ")
    have hjo : Str.join ⟨#[32]⟩ (Txt.split x (Str.ofString " ")) = x := by
      rw [blank_one]
      exact StrLaws.join_split x _
    have hbad : ∀ w y rs,OkP w y rs → x = paperT w y rs → Txt.split x (Str.ofString " ") = w :: y :: rs.map pairT := fun w y rs ok e => by rw [e,split_paper ok.word ok.way]
    have hsh : ∀ q ∈ Txt.split x (Str.ofString " "),q.length ≤ x.length := fun q hq => PyProof.Rows.part_short hq
    refine ⟨_,rfl,rfl,_,_,rfl,rfl,rfl,by omega,fun l1 H1 s1 f1 n1 => ?_⟩
    generalize hws : Txt.split x (Str.ofString " ") = ws at *
    refine ⟨_,rfl,l1,_,rfl,.inl (SqL.of f1),_,_,rfl,rfl,_,rfl,ite3 (fun c1 => ?_) (fun c1 => ?_)⟩
    rotate_left
    · refine ⟨_,rfl,iteT (no (fun w y rs ok e => ?_) H1 s1)⟩
      have c1 : ¬ (3 : Int) ≤ (((ws.map V.str).length : Nat) : Int) := by simpa using c1
      have h1 := hbad w y rs ok e
      have h2 := ok.one
      rw [List.length_map,h1] at c1
      simp at c1
      omega
    have c1 : (3 : Int) ≤ (((ws.map V.str).length : Nat) : Int) := by simpa using c1
    rw [List.length_map] at c1
    refine ⟨_,_,rfl,rfl,_,_,rfl,rfl,_,rfl,ite3 (fun c2 => iteT (no (fun w y rs ok e => ?_) H1 s1)) (fun c2 => ?_)⟩
    · have c2 : ¬ (((ws.map V.str).length : Nat) : Int) ≤ 200 + 2 := by simpa using c2
      have h1 := hbad w y rs ok e
      have h2 := ok.most
      rw [List.length_map,h1] at c2
      simp at c2
      omega
    have c2 : (((ws.map V.str).length : Nat) : Int) ≤ 200 + 2 := by simpa using c2
    rw [List.length_map] at c2
    obtain ⟨w0,w1,w2,wr,rfl⟩ := three (ws := ws) (by omega)
    have f1 : H1 l1 = some (.lst (.str w0 :: .str w1 :: .str w2 :: wr.map V.str)) := f1
    refine ⟨_,rfl,l1,_,_,.str w0,rfl,rfl,SqL.of f1,at_zero _ _,pP,_,rfl,.inr (hP _),rfl,flat_strs _,_,rfl,ite3 (fun c3 => iteT (no (fun w y rs ok e => ?_) H1 s1)) (fun c3 => ?_)⟩
    · have c3 : (!inV (.str w0) (wordsL.map V.str)) = true := c3
      rw [inV_strs] at c3
      have h1 := hbad w y rs ok e
      simp only [List.cons.injEq] at h1
      rw [h1.1] at c3
      simp [ok.word] at c3
    have c3 : (!inV (.str w0) (wordsL.map V.str)) = false := c3
    rw [inV_strs] at c3
    have hw0 : w0 ∈ wordsL := by simpa using c3
    refine ⟨_,rfl,l1,_,_,.str w1,rfl,rfl,SqL.of f1,at_one _ _ _,pW,_,rfl,.inr (hW _),rfl,flat_strs _,_,rfl,ite3 (fun c4 => no (fun w y rs ok e => ?_) H1 s1) (fun c4 => ?_)⟩
    · have c4 : (!inV (.str w1) (waysL.map V.str)) = true := c4
      rw [inV_strs] at c4
      have h1 := hbad w y rs ok e
      simp only [List.cons.injEq] at h1
      rw [h1.2.1] at c4
      simp [ok.way] at c4
    have c4 : (!inV (.str w1) (waysL.map V.str)) = false := c4
    rw [inV_strs] at c4
    have hw1 : w1 ∈ waysL := by simpa using c4
    refine ⟨_,rfl,l1,_,_,.str w0,rfl,rfl,SqL.of f1,at_zero _ _,_,rfl,l1,_,_,.str w1,rfl,rfl,SqL.of f1,at_one _ _ _,?_⟩
    refine ⟨_,rfl,_,rfl,l1,_,rfl,SqL.of f1,fun l5 H5 s5 f5 n5 => ?_⟩
    rw [cut2] at f5
    have f5 : H5 l5 = some (.lst ((w2 :: wr).map V.str)) := f5
    have S5 := s1.trans s5
    refine ⟨l5,rfl,⟨_,SqL.of f5⟩,comp_RB (SqL.of f5) (by rw [List.length_map]; simp at c2 ⊢; omega) (fun i v H' => ∃ r,(w2 :: wr)[i]? = some (pairT r) ∧ Wr4 r ∧ PrT H' v r) (fun i v H H' st ⟨r,e1,e2,e3⟩ => ⟨r,e1,e2,e3.t st⟩) ?_ ?_⟩
    · intro i y H2 Kc hx s2 kk
      rw [List.getElem?_map] at hx
      obtain ⟨wd,hp,rfl⟩ := Option.map_eq_some_iff.mp hx
      have hm := List.mem_of_getElem? hp
      have hsz := hsh wd (List.mem_cons_of_mem _ (List.mem_cons_of_mem _ hm))
      by_cases hc : ∃ r,wd = pairT r ∧ Wr4 r
      · obtain ⟨r,rfl,w4⟩ := hc
        exact ⟨_,rfl,_,rfl,by omega,.inl ⟨r,rfl,w4,fun v H3 s3 f3 => kk _ _ s3 ⟨r,hp,w4,f3⟩⟩⟩
      · refine ⟨_,rfl,_,rfl,by omega,.inr ⟨fun r w4 e => hc ⟨r,e,w4⟩,fun H3 s3 => no (fun w y rs ok e => ?_) H3 (S5.trans (s2.trans s3))⟩⟩
        have h1 := hbad w y rs ok e
        injection h1 with _ h1
        injection h1 with _ h1
        rw [h1] at hm
        obtain ⟨r,hr,e2⟩ := List.mem_map.mp hm
        exact hc ⟨r,e2.symm,ok.prs r hr⟩
    · intro l ys H2 nl s2 f2 hly hr
      rw [List.length_map] at hly
      obtain ⟨qs,ey,ew,hq⟩ := prs_of hly hr
      subst ey
      refine ⟨sz (by simp),fun p H3 s3 f3 n3 => ?_⟩
      have hql : qs.length = (w2 :: wr).length := by rw [ew,List.length_map,List.length_map]
      have ok : OkP w0 w1 (qs.map (·.2)) := ⟨hw0,hw1,by rw [List.length_map,hql]; simp,by rw [List.length_map,hql]; simp at c2 ⊢; omega,fun r hr => by
        obtain ⟨q',hq',rfl⟩ := List.mem_map.mp hr
        exact (hq q' hq').2⟩
      have ex : x = paperT w0 w1 (qs.map (·.2)) := by
        rw [← hjo,ew]
        rfl
      have L : Prs H2 l qs := ⟨f2,fun q' hq' => (hq q' hq').1⟩
      rcases h with ⟨w,y,rs,e,ok',k⟩ | ⟨z,_⟩
      · obtain ⟨rfl,rfl,rfl⟩ := paper_inj ok ok' (ex.symm.trans e)
        exact k p H3 (S5.trans (s2.trans s3)) ⟨l,qs,f3,L.mono s3,rfl⟩
      · exact absurd ex (z _ _ _ ok)
def fracO (x : Str) (H : Hp) (v : V) : Prop := (∃ p a b,v = .ref p ∧ H p = some (.tup [.int a,.int b]) ∧ x = showR a b ∧ Wr a b) ∨ (v = .non ∧ ∀ a b,Wr a b → x ≠ showR a b)
theorem fracO.t {x : Str} {H H' : Hp} {v : V} (h : fracO x H v) (s : SameT H H') : fracO x H' v := by
  rcases h with ⟨p,a,b,e,e1,e2,e3⟩ | z
  · exact .inl ⟨p,a,b,e,s _ _ e1,e2,e3⟩
  · exact .inr z
theorem lf_any {x : Str} {H : Hp} {Q : VK} {E : XK} (hl : x.length ≤ 60000) (k : ∀ (v : V) (H' : Hp),Same H H' → fracO x H' v → Q v H') : spLFr [.str x] H Q E := by
  refine ⟨x,rfl,hl,?_⟩
  by_cases hn : ∃ a b : Int,x = showR a b ∧ Wr a b
  · obtain ⟨a,b,e,wr⟩ := hn
    exact .inl ⟨a,b,e,wr,fun p H' s f _ => k _ H' s (.inl ⟨p,a,b,rfl,f,e,wr⟩)⟩
  · have hno : ∀ a b : Int,Wr a b → x ≠ showR a b := fun a b hb e => hn ⟨a,b,e,hb⟩
    exact .inr ⟨hno,fun H' s => k .non H' s (.inr ⟨rfl,hno⟩)⟩
def pairO (x : Str) (H : Hp) (v : V) : Prop := (58 ∉ x.cps.toList ∧ v = .non) ∨ ∃ (p : Addr) (a b : Str) (u1 u2 : V),v = .ref p ∧ H p = some (.tup [u1,u2]) ∧ x.cps.toList = a.cps.toList ++ 58 :: b.cps.toList ∧ 58 ∉ a.cps.toList ∧ fracO a H u1 ∧ fracO b H u2
theorem pairO.t {x : Str} {H H' : Hp} {v : V} (h : pairO x H v) (s : SameT H H') : pairO x H' v := by
  rcases h with z | ⟨p,a,b,o1,o2,e0,e,ex,ha,r1,r2⟩
  · exact .inl z
  · exact .inr ⟨p,a,b,o1,o2,e0,s _ _ e,ex,ha,r1.t s,r2.t s⟩
def spLPr : Sp := fun vs H Q _ => ∃ x : Str,vs = [.str x] ∧ x.length ≤ 60000 ∧ ∀ (v : V) (H' : Hp),Same H H' → pairO x H' v → Q v H'
theorem fracO_show {a b : Int} {H : Hp} {v : V} (wr : Wr a b) (h : fracO (showR a b) H v) : ∃ p,v = .ref p ∧ H p = some (.tup [.int a,.int b]) := by
  rcases h with ⟨p,a',b',e,e1,e2,_⟩ | ⟨_,z⟩
  · obtain ⟨rfl,rfl⟩ := showR_inj e2
    exact ⟨p,e,e1⟩
  · exact absurd rfl (z a b wr)
theorem pairO_pair {r : R4} {H : Hp} {v : V} (wr : Wr4 r) (h : pairO (pairT r) H v) : PrT H v r := by
  rcases h with ⟨hn,_⟩ | ⟨p,a,b,o1,o2,rfl,e,ex,ha,r1,r2⟩
  · refine absurd ?_ hn
    rw [pair_cps]
    simp
  · rw [pair_cps] at ex
    obtain ⟨e1,e2⟩ := cut_one (showR_no (by decide)) ha ex
    rw [← PyProof.Rows.ext_toList e1] at r1
    rw [← PyProof.Rows.ext_toList e2] at r2
    obtain ⟨p1,rfl,g1⟩ := fracO_show wr.1 r1
    obtain ⟨p2,rfl,g2⟩ := fracO_show wr.2 r2
    exact ⟨p,p1,p2,rfl,e,g1,g2⟩
theorem pairO_back {x a b : Str} {r : R4} (ex : x.cps.toList = a.cps.toList ++ 58 :: b.cps.toList) (r1 : a = showR r.1.1 r.1.2) (r2 : b = showR r.2.1 r.2.2) : x = pairT r := by
  apply PyProof.Rows.ext_toList
  rw [pair_cps,ex,r1,r2]
theorem S_law_pair_in : FnScope ["word","x","colon","y"] ["word"] (defScope (top 40)) := ⟨rfl,rfl,rfl,by decide +kernel,rfl,by decide +kernel,by decide +kernel⟩
theorem fn_law_pair_in (D_law_pair_in : Df K mg "_law_pair_in" (top 40)) (F_law_fraction : Fn P w K mg base "_law_fraction" ["text"] 2 spLFr) : Fn P w K mg base "_law_pair_in" ["word"] 3 spLPr := by
  refine D_law_pair_in.fn S_law_pair_in (fun _ _ _ _ _ _ us hl => match us,hl with | [_],_ => rfl) (fun vs H Q E h => ?_) (fun f cdv A outer s H vs Q E hr h => ?_)
  · obtain ⟨x,rfl,_⟩ := h
    rfl
  · obtain ⟨x,rfl,hl,q⟩ := h
    refine ⟨_,(pss_cons (ps_asg (pe_bm PySem.F.plainAttrs_str PySem.F.slot_str_partition PySem.F.type_str_partition mt_partition (pv 0) (pa_cons pe_str pa_nil)) (pg_tup rfl (pgs_cons (pg_name (i := 1) S_law_pair_in.nd rfl (Or.inl rfl)) (pgs_cons (pg_name (i := 2) S_law_pair_in.nd rfl (Or.inl rfl)) (pgs_cons (pg_name (i := 3) S_law_pair_in.nd rfl (Or.inl rfl)) pgs_nil))))) (pss_cons (ps_if (pt_cmpR op_eq (pv 2) pe_str (nomark _)) (pss_one (ps_ret pe_non)) pss_nil) (pss_one (ps_ret (pe_tupA (pa_cons (pe_fn F_law_fraction (hr.mono (by decide)) (by rfl) (pa_cons (pv 1) pa_nil)) (pa_cons (pe_fn F_law_fraction (hr.mono (by decide)) (by rfl) (pa_cons (pv 3) pa_nil)) pa_nil))))))),?_⟩
    have yl : ((Str.ofString ":").length == 0) = false := rfl
    refine ⟨_,rfl,rfl,x,_,rfl,rfl,yl,by omega,fun t H1 s1 f1 n1 => ?_⟩
    rcases part_one x 58 with ⟨hc,ep⟩ | ⟨a,b,ep,ex,ha⟩
    · rw [show Str.ofString ":" = (⟨#[58]⟩ : Str) from colon_one,ep] at f1
      have f1 : H1 t = some (.tup [.str x,.str Str.empty,.str Str.empty]) := f1
      refine ⟨t,_,rfl,SqT.of f1,rfl,_,_,rfl,_,_,rfl,_,_,rfl,rfl,?_⟩
      refine ⟨_,rfl,rfl,_,rfl,iteTrue (by decide) ?_⟩
      exact q .non H1 s1 (.inl ⟨hc,rfl⟩)
    · rw [show Str.ofString ":" = (⟨#[58]⟩ : Str) from colon_one,ep] at f1
      have f1 : H1 t = some (.tup [.str a,.str ⟨#[58]⟩,.str b]) := f1
      have hx := len_toList x
      rw [ex,List.length_append,List.length_cons,len_toList,len_toList] at hx
      refine ⟨t,_,rfl,SqT.of f1,rfl,_,_,rfl,_,_,rfl,_,_,rfl,rfl,?_⟩
      refine ⟨_,rfl,rfl,_,rfl,iteFalse (by simp [show Str.ofString "" = (⟨#[]⟩ : Str) by decide +kernel]) ?_⟩
      refine ⟨_,rfl,?_⟩
      unfold tNil
      dsimp only [List.cons_append,List.nil_append]
      refine lf_any (by omega) fun o1 H2 s2 r1 => ?_
      refine ⟨_,rfl,?_⟩
      try unfold tNil
      dsimp only [List.cons_append,List.nil_append]
      refine lf_any (by omega) fun o2 H3 s3 r2 => ⟨sz (by simp),fun p H4 s4 f4 n4 => ?_⟩
      exact q (.ref p) H4 (s1.trans (s2.trans (s3.trans s4))) (.inr ⟨p,a,b,o1,o2,rfl,f4,ex,ha,(r1.t s3.t).t s4.t,r2.t s4.t⟩)
def spToldP : Sp := fun vs H Q _ => ∃ x : Str,vs = [.str x] ∧ x.length ≤ 60000 ∧
  ((∃ w y rs,x = paperT w y rs ∧ OkP w y rs ∧ ∀ (p : Addr) (H' : Hp),Same H H' → Pap H' p w y rs → Q (.ref p) H') ∨ ((∀ w y rs,OkP w y rs → x ≠ paperT w y rs) ∧ ∀ (r : Addr) (H' : Hp),H' r = some (.tup refusedL) → Same H H' → Q (.ref r) H'))
theorem S_law_told_of : FnScope ["text","told","e","others"] ["text"] (defScope (top 43)) := ⟨rfl,rfl,rfl,by decide +kernel,rfl,by decide +kernel,by decide +kernel⟩
theorem fn_law_told_of {B C9 C0 C1 C2 C3 C4 C5 : Addr} (D_law_told_of : Df K mg "_law_told_of" (top 43)) (O_LeashError : ExcC K mg "LeashError" B) (O_NoText : ExcC K mg "NoText" C9) (O_NoFence : ExcC K mg "NoFence" C0) (O_NoLine : ExcC K mg "NoLine" C1) (O_NoPlace : ExcC K mg "NoPlace" C2) (O_NoRatio : ExcC K mg "NoRatio" C3) (O_NoWalk : ExcC K mg "NoWalk" C4) (O_NoWay : ExcC K mg "NoWay" C5) (m_NoText : PySem.W.exmOne K (.ref C9) (.ref B) = some true) (f_NoText : ExcF K C9) (i_1 : PySem.W.kitOne K (.ref C9) (.ref C9) = some true) (i_v : PySem.W.kitOne K (.ref C9) (.type "ValueError") = some true) (i_2 : PySem.W.kitAny K (.ref C9) [.ref C0,.ref C1,.ref C2,.ref C3,.ref C4,.ref C5] = some false) (F_read_paper : Fx P w K mg base "read_paper" ["text"] 5 [] (spReadPp C9)) (T : Txt mg) : Fn P w K mg base "_law_told_of" ["text"] 6 spToldP := by
  refine D_law_told_of.fn S_law_told_of (fun _ _ _ _ _ _ us hl => match us,hl with | [_],_ => rfl) (fun vs H Q E h => ?_) (fun f cdv A outer s H vs Q E hr h => ?_)
  · obtain ⟨x,rfl,_⟩ := h
    rfl
  · obtain ⟨x,rfl,hl,h⟩ := h
    have IE : ∀ e : Addr,CallR (Cx.inH (cxOf CX0 P w K mg base ["text","told","e","others"] "_law_told_of" (defScope (top 43)) f cdv A outer s H E).nox e) (.builtin "isinstance") (rIsE K C9) := fun e => call_isexc O_NoText f_NoText
    refine ⟨_,(pss_cons (ps_set (i := 1) S_law_told_of.nd rfl (Or.inl rfl) pe_non) (pss_cons (ps_try_as (i := 2) rfl rfl (pxs_one (px_set (i := 1) S_law_told_of.nd rfl (Or.inl rfl) F_read_paper (hr.mono (by decide)) (by rfl) (pa_cons (pv 0) pa_nil))) O_LeashError (by rfl) m_NoText rfl S_law_told_of.nd rfl rfl (fun e => (pss_cons (ps_set (i := 3) S_law_told_of.nd rfl (Or.inl rfl) (pe_callB (IE e) (by rfl) T.z_isinstance bt_isinstance (pa_cons (pv 2) (pa_cons (pe_tupA (pa_cons (pe_glob (v := .ref _) (by rfl) O_NoFence.bound rfl) (pa_cons (pe_glob (v := .ref _) (by rfl) O_NoLine.bound rfl) (pa_cons (pe_glob (v := .ref _) (by rfl) O_NoPlace.bound rfl) (pa_cons (pe_glob (v := .ref _) (by rfl) O_NoRatio.bound rfl) (pa_cons (pe_glob (v := .ref _) (by rfl) O_NoWalk.bound rfl) (pa_cons (pe_glob (v := .ref _) (by rfl) O_NoWay.bound rfl) pa_nil))))))) pa_nil)))) (pss_one (ps_set (i := 1) S_law_told_of.nd rfl (Or.inl rfl) (pe_tupA (pa_cons pe_str (pa_cons (pe_callB (IE e) (by rfl) T.z_isinstance bt_isinstance (pa_cons (pv 2) (pa_cons (pe_glob (v := .ref _) (by rfl) O_NoText.bound rfl) pa_nil))) (pa_cons (pe_callB (IE e) (by rfl) T.z_isinstance bt_isinstance (pa_cons (pv 2) (pa_cons (pe_ty T.z_ValueError bt_ValueError) pa_nil))) (pa_cons (pv 3) pa_nil)))))))))) (pss_one (ps_ret (pv 1))))),?_⟩
    rcases h with ⟨a,b,c,e,ok,k⟩ | ⟨z,k⟩
    · exact ⟨_,rfl,x,rfl,hl,.inl ⟨a,b,c,e,ok,fun p H1 s1 f1 => ⟨_,rfl,k p H1 s1 f1⟩⟩⟩
    refine ⟨_,rfl,x,rfl,hl,.inr ⟨z,fun H1 s1 => ⟨rfl,fun e he => ?_⟩⟩⟩
    have fe : (upd H1 e (excO C9 e)) e = some (excO C9 e) := upd_same
    have se : Same H1 (upd H1 e (excO C9 e)) := Same.new he
    generalize upd H1 e (excO C9 e) = H2 at fe se ⊢
    refine ⟨_,rfl,sz (by simp),fun pt H3 s3 f3 n3 => ⟨e,_,false,rfl,s3 _ _ fe,.inr (.inr ⟨pt,[C0,C1,C2,C3,C4,C5],rfl,f3,i_2⟩),?_⟩⟩
    refine ⟨_,rfl,e,_,true,rfl,s3 _ _ fe,.inl ⟨_,rfl,i_1⟩,_,rfl,e,_,true,rfl,s3 _ _ fe,.inr (.inl ⟨_,rfl,i_v⟩),_,rfl,sz (by simp),fun r H4 s4 f4 n4 => ?_⟩
    exact ⟨_,rfl,k r H4 f4 (s1.trans (se.trans (s3.trans s4)))⟩
def spLPp : Sp := fun vs H Q _ => ∃ x : Str,vs = [.str x] ∧ x.length ≤ 60000 ∧
  ((∃ w y rs,x = paperT w y rs ∧ OkP w y rs ∧ ∀ (p : Addr) (H' : Hp),Same H H' → Pap H' p w y rs → Q (.ref p) H') ∨ ((∀ w y rs,OkP w y rs → x ≠ paperT w y rs) ∧ ∀ H',Same H H' → Q .non H'))
def GoodP (ws : List Str) (ys : List V) (H : Hp) (j : Nat) : Prop := ∃ v r,ys[j]? = some v ∧ ws[j]? = some (pairT r) ∧ Wr4 r ∧ PrT H v r
theorem S_law_paper_in : FnScope ["text","words","pairs","x","y"] ["text"] (defScope (top 41)) := ⟨rfl,rfl,rfl,by decide +kernel,rfl,by decide +kernel,by decide +kernel⟩
theorem fn_law_paper_in (D_law_paper_in : Df K mg "_law_paper_in" (top 41)) (F_law_pair_in : Fn P w K mg base "_law_pair_in" ["word"] 3 spLPr) (T : Txt mg) : Fn P w K mg base "_law_paper_in" ["text"] 4 spLPp := by
  refine D_law_paper_in.fn S_law_paper_in (fun _ _ _ _ _ _ us hl => match us,hl with | [_],_ => rfl) (fun vs H Q E h => ?_) (fun f cdv A outer s H vs Q E hr h => ?_)
  · obtain ⟨x,rfl,_⟩ := h
    rfl
  · obtain ⟨x,rfl,hl,h⟩ := h
    have CN : CompN (cxOf CX0 P w K mg base ["text","words","pairs","x","y"] "_law_paper_in" (defScope (top 41)) f cdv A outer s H E).nox (setScope ((defBody (top 41)).getD 2 (.Pass ⟨0,0,0,0⟩))) [] "word" [] :=
      ⟨by rfl,rfl,by decide +kernel,by decide +kernel,rfl,(fun p hp => nomatch hp),by rfl,by decide +kernel,(fun p hp => nomatch hp),⟨rfl,rfl⟩,rfl⟩
    refine ⟨_,(pss_cons (ps_set (i := 1) S_law_paper_in.nd rfl (Or.inl rfl) (pe_bm PySem.F.plainAttrs_str PySem.F.slot_str_split PySem.F.type_str_split mt_split (pv 0) (pa_cons pe_str pa_nil))) (pss_cons (ps_if (pw_or (pt_cmpR op_lt (pe_callB call_len_seq (by rfl) T.z_len bt_len (pa_cons (pv 1) pa_nil)) pe_int (nomark _)) (pw_or (pt_cmpR op_gt (pe_callB call_len_seq (by rfl) T.z_len bt_len (pa_cons (pv 1) pa_nil)) pe_int (nomark _)) (pw_or1 (pt_cmpR op_notIn_seq (pe_ix ix_list (pv 1) pe_int (fun _ _ => rfl)) (pe_tupA (pa_cons pe_str (pa_cons pe_str pa_nil))) (by rfl))))).pt (pss_one (ps_ret pe_non)) pss_nil) (pss_cons (ps_setCompA (j := 2) rfl CN S_law_paper_in.nd rfl rfl (pi_list (pe_slice sl_listA (pv 1) (po_some pe_int) po_none)) (fun fp s₀ H₀ => (pe_fn F_law_pair_in (hr.mono (by decide)) (by rfl) (pa_cons (pv 0) pa_nil)))) (pss_cons (ps_if (pw_or (pt_cmpR op_notIn_seq (pe_ix ix_list (pv 1) pe_int (fun _ _ => rfl)) (pe_tupA (pa_cons pe_str (pa_cons pe_str (pa_cons pe_str (pa_cons pe_str pa_nil))))) (by rfl)) (pw_or1 (pt_cmpR (op_inN hr.units10) pe_non (pv 2) (by rfl)))).pt (pss_one (ps_ret pe_non)) pss_nil) (pss_cons (ps_for PassesOwn.never rfl (pi_list (pv 2)) (pg_tup rfl (pgs_cons (pg_name (i := 3) S_law_paper_in.nd rfl (Or.inl rfl)) (pgs_cons (pg_name (i := 4) S_law_paper_in.nd rfl (Or.inl rfl)) pgs_nil))) (pss_one (ps_if (pw_or (pt_cmpR op_isN (pv 3) pe_non (nomark _)) (pw_or1 (pt_cmpR op_isN (pv 4) pe_non (nomark _)))).pt (pss_one (ps_ret pe_non)) pss_nil))) (pss_one (ps_ret (pe_tupA (pa_cons (pe_ix ix_list (pv 1) pe_int (fun _ _ => rfl)) (pa_cons (pe_ix ix_list (pv 1) pe_int (fun _ _ => rfl)) (pa_cons (pv 2) pa_nil))))))))))),?_⟩
    have no : (∀ w y rs,OkP w y rs → x ≠ paperT w y rs) → ∀ H',Same H H' → Q .non H' := fun z H' s' => by
      rcases h with ⟨a,b,c,e,th,_⟩ | ⟨_,k⟩
      · exact absurd e (z a b c th)
      · exact k H' s'
    have hpl := PyProof.Rows.split_le x (Str.ofString " ")
    have hjo : Str.join ⟨#[32]⟩ (Txt.split x (Str.ofString " ")) = x := by
      rw [blank_one]
      exact StrLaws.join_split x _
    have hbad : ∀ w y rs,OkP w y rs → x = paperT w y rs → Txt.split x (Str.ofString " ") = w :: y :: rs.map pairT := fun w y rs ok e => by rw [e,split_paper ok.word ok.way]
    have hsh : ∀ q ∈ Txt.split x (Str.ofString " "),q.length ≤ x.length := fun q hq => PyProof.Rows.part_short hq
    refine ⟨_,rfl,rfl,_,_,rfl,rfl,rfl,by omega,fun l1 H1 s1 f1 n1 => ?_⟩
    generalize hws : Txt.split x (Str.ofString " ") = ws at *
    refine ⟨_,rfl,l1,_,rfl,.inl (SqL.of f1),_,_,rfl,rfl,_,rfl,ite3 (fun c1 => iteT (no (fun w y rs ok e => ?_) H1 s1)) (fun c1 => ?_)⟩
    · have c1 : (((ws.map V.str).length : Nat) : Int) < 3 := by simpa using c1
      have h1 := hbad w y rs ok e
      have h2 := ok.one
      rw [List.length_map,h1] at c1
      simp at c1
      omega
    have c1 : ¬ (((ws.map V.str).length : Nat) : Int) < 3 := by simpa using c1
    rw [List.length_map] at c1
    refine ⟨_,rfl,l1,_,rfl,.inl (SqL.of f1),_,_,rfl,rfl,_,rfl,ite3 (fun c2 => iteT (no (fun w y rs ok e => ?_) H1 s1)) (fun c2 => ?_)⟩
    · have c2 : 202 < (((ws.map V.str).length : Nat) : Int) := by simpa using c2
      have h1 := hbad w y rs ok e
      have h2 := ok.most
      rw [List.length_map,h1] at c2
      simp at c2
      omega
    have c2 : ¬ 202 < (((ws.map V.str).length : Nat) : Int) := by simpa using c2
    rw [List.length_map] at c2
    obtain ⟨w0,w1,w2,wr,rfl⟩ := three (ws := ws) (by omega)
    have f1 : H1 l1 = some (.lst (.str w0 :: .str w1 :: .str w2 :: wr.map V.str)) := f1
    refine ⟨_,rfl,l1,_,_,.str w0,rfl,rfl,SqL.of f1,at_zero _ _,sz (by simp),fun d1 H2 s2 f2 n2 => ?_⟩
    have f2 : H2 d1 = some (.tup (wordsL.map V.str)) := f2
    have S2 := s1.trans s2
    have g2 := s2 _ _ f1
    refine ⟨d1,_,rfl,.inr (SqT.of f2),rfl,flat_strs _,_,rfl,ite3 (fun c3 => no (fun w y rs ok e => ?_) H2 S2) (fun c3 => ?_)⟩
    · have c3 : (!inV (.str w0) (wordsL.map V.str)) = true := c3
      rw [inV_strs] at c3
      have h1 := hbad w y rs ok e
      simp only [List.cons.injEq] at h1
      rw [h1.1] at c3
      simp [ok.word] at c3
    have c3 : (!inV (.str w0) (wordsL.map V.str)) = false := c3
    rw [inV_strs] at c3
    have hw0 : w0 ∈ wordsL := by simpa using c3
    refine ⟨_,rfl,_,rfl,l1,_,rfl,SqL.of g2,fun l5 H5 s5 f5 n5 => ?_⟩
    rw [cut2] at f5
    have f5 : H5 l5 = some (.lst ((w2 :: wr).map V.str)) := f5
    have S5 := S2.trans s5
    refine ⟨l5,rfl,⟨_,SqL.of f5⟩,comp_RB (SqL.of f5) (by rw [List.length_map]; simp at c2 ⊢; omega) (fun i v H' => ∃ wd,(w2 :: wr)[i]? = some wd ∧ pairO wd H' v) (fun i v H H' st ⟨r,e1,e2⟩ => ⟨r,e1,e2.t st⟩) ?_ ?_⟩
    · intro i y H2 Kc hx s2 kk
      rw [List.getElem?_map] at hx
      obtain ⟨wd,hp,rfl⟩ := Option.map_eq_some_iff.mp hx
      have hsz := hsh wd (List.mem_cons_of_mem _ (List.mem_cons_of_mem _ (List.mem_of_getElem? hp)))
      exact ⟨_,rfl,wd,rfl,by omega,fun v H3 s3 co => kk v H3 s3 ⟨wd,hp,co⟩⟩
    intro l ys H6 nl s6 f6 hly hr
    rw [List.length_map] at hly
    have S6 := S5.trans s6
    have g6 := s6 _ _ (s5 _ _ g2)
    have hat : ∀ w y rs,OkP w y rs → x = paperT w y rs → ∀ (i : Nat) v,ys[i]? = some v → ∃ r,PrT H6 v r := fun w y rs ok e i v hv => by
      obtain ⟨wd,hw,co⟩ := hr i v hv
      have h1 := hbad w y rs ok e
      injection h1 with _ h1
      injection h1 with _ h1
      rw [h1,List.getElem?_map] at hw
      obtain ⟨r,hr2,rfl⟩ := Option.map_eq_some_iff.mp hw
      exact ⟨r,pairO_pair (ok.prs r (List.mem_of_getElem? hr2)) co⟩
    refine ⟨_,rfl,l1,_,_,.str w1,rfl,rfl,SqL.of g6,at_one _ _ _,sz (by simp),fun d2 H7 s7 f7 n7 => ?_⟩
    have f7 : H7 d2 = some (.tup (waysL.map V.str)) := f7
    have S7 := S6.trans s7
    refine ⟨d2,_,rfl,.inr (SqT.of f7),rfl,flat_strs _,_,rfl,ite3 (fun c4 => iteT (no (fun w y rs ok e => ?_) H7 S7)) (fun c4 => ?_)⟩
    · have c4 : (!inV (.str w1) (waysL.map V.str)) = true := c4
      rw [inV_strs] at c4
      have h1 := hbad w y rs ok e
      simp only [List.cons.injEq] at h1
      rw [h1.2.1] at c4
      simp [ok.way] at c4
    have c4 : (!inV (.str w1) (waysL.map V.str)) = false := c4
    rw [inV_strs] at c4
    have hw1 : w1 ∈ waysL := by simpa using c4
    have g7 := s7 _ _ f6
    have hr7 : ∀ (i : Nat) v,ys[i]? = some v → ∃ wd,(w2 :: wr)[i]? = some wd ∧ pairO wd H7 v := fun i v hv => by
      obtain ⟨wd,e1,e2⟩ := hr i v hv
      exact ⟨wd,e1,e2.t s7.t⟩
    refine ⟨_,rfl,l,ys,rfl,rfl,SqL.of g7,fun v hv => ?_,_,rfl,ite3 (fun c5 => no (fun w y rs ok e => ?_) H7 S7) (fun c5 => ?_)⟩
    · obtain ⟨i,hi,e⟩ := List.mem_iff_getElem.mp hv
      obtain ⟨wd,hw,co⟩ := hr7 i v (by rw [List.getElem?_eq_getElem hi,e])
      rcases co with ⟨_,rfl⟩ | ⟨p,a,b,o1,o2,rfl,ep,_⟩
      · exact .inl rfl
      · exact .inr (.inr ⟨p,_,rfl,ep⟩)
    · have c5 : V.non ∈ ys := of_decide_eq_true c5
      obtain ⟨i,hi,ei⟩ := List.mem_iff_getElem.mp c5
      obtain ⟨r,p,_,_,e1,_⟩ := hat w y rs ok e i _ (by rw [List.getElem?_eq_getElem hi,ei])
      cases e1
    have c5 : V.non ∉ ys := of_decide_eq_false c5
    refine ⟨_,rfl,l,rfl,⟨_,SqL.of g7⟩,for_list (K := K) (a := l) (xs := ys) (fun i σ H8 => ∃ z3 z4 : Option V,σ = [some (.str x),some (.ref l1),some (.ref l),z3,z4] ∧ H8 = H7 ∧ i ≤ ys.length ∧ ∀ j,j < i → GoodP (w2 :: wr) ys H7 j)
      ⟨none,none,rfl,rfl,Nat.zero_le _,fun j hj => absurd hj (Nat.not_lt_zero _)⟩ (fun i σ H8 _ ⟨_,_,_,e3,_⟩ => by rw [e3]; exact SqL.of g7) ?_ ?_⟩
    · rintro i y σ H8 hy ⟨z3,z4,rfl,rfl,hi,hg⟩
      obtain ⟨wd,hw,co⟩ := hr7 i y hy
      have hil : i < ys.length := (List.getElem?_eq_some_iff.mp hy).1
      rcases co with ⟨_,rfl⟩ | ⟨p,a,b,o1,o2,rfl,ep,ex,ha,r1,r2⟩
      · exact absurd (List.mem_of_getElem? hy) c5
      have hno : (o1 = .non ∨ o2 = .non) → ∀ w y rs,OkP w y rs → x ≠ paperT w y rs := fun z w y rs ok e => by
        obtain ⟨r,p',a',b',e1,e2,_⟩ := hat w y rs ok e i _ hy
        cases e1
        have e2 := s7 _ _ e2
        rw [ep] at e2
        have e2 := (Option.some.inj e2)
        injection e2 with e2
        simp only [List.cons.injEq,and_true] at e2
        rw [e2.1,e2.2] at z
        rcases z with z | z <;> cases z
      refine ⟨p,_,rfl,SqT.of ep,rfl,_,_,rfl,_,_,rfl,rfl,?_⟩
      rcases r1 with ⟨p1,a1,b1,rfl,g1,e1,q1⟩ | ⟨rfl,_⟩
      rotate_left
      · exact ⟨_,rfl,rfl,_,rfl,iteTrue rfl (iteT (no (hno (.inl rfl)) H8 S7))⟩
      refine ⟨_,rfl,rfl,_,rfl,iteFalse rfl ?_⟩
      rcases r2 with ⟨p2,a2,b2,rfl,g2,e2,q2⟩ | ⟨rfl,_⟩
      rotate_left
      · exact ⟨_,rfl,rfl,_,rfl,iteTrue rfl (no (hno (.inr rfl)) H8 S7)⟩
      refine ⟨_,rfl,rfl,_,rfl,iteFalse rfl ?_⟩
      refine ⟨_,_,rfl,rfl,hil,fun j hj => ?_⟩
      rcases Nat.lt_or_ge j i with hlt | hge
      · exact hg j hlt
      · have : j = i := by omega
        subst this
        exact ⟨.ref p,((a1,b1),(a2,b2)),hy,by rw [hw,pairO_back (r := ((a1,b1),(a2,b2))) ex e1 e2],⟨q1,q2⟩,p,p1,p2,rfl,ep,g1,g2⟩
    · rintro σ H8 ⟨z3,z4,rfl,rfl,hi,hg⟩
      obtain ⟨qs,ey,ew,hq⟩ := prs_of hly fun i y hy => by
        obtain ⟨v,r,e1,e2,w4,e3⟩ := hg i (List.getElem?_eq_some_iff.mp hy).1
        rw [hy] at e1
        cases e1
        exact ⟨r,e2,w4,e3⟩
      have hql : qs.length = (w2 :: wr).length := by rw [ew,List.length_map,List.length_map]
      have ok : OkP w0 w1 (qs.map (·.2)) := ⟨hw0,hw1,by rw [List.length_map,hql]; simp,by rw [List.length_map,hql]; simp at c2 ⊢; omega,fun r hr => by
        obtain ⟨q',hq',rfl⟩ := List.mem_map.mp hr
        exact (hq q' hq').2⟩
      have ex : x = paperT w0 w1 (qs.map (·.2)) := by
        rw [← hjo,ew]
        rfl
      have L : Prs H8 l qs := ⟨by rw [g7,ey],fun q' hq' => (hq q' hq').1⟩
      have g8 := s7 _ _ g6
      refine ⟨_,rfl,l1,_,_,.str w0,rfl,rfl,SqL.of g8,at_zero _ _,_,rfl,l1,_,_,.str w1,rfl,rfl,SqL.of g8,at_one _ _ _,_,rfl,sz (by simp),fun p H9 s9 f9 n9 => ?_⟩
      rcases h with ⟨w,y,rs,e,ok',k⟩ | ⟨z,_⟩
      · obtain ⟨rfl,rfl,rfl⟩ := paper_inj ok ok' (ex.symm.trans e)
        exact k p H9 (S7.trans s9) ⟨l,qs,f9,L.mono s9,rfl⟩
      · exact absurd ex (z _ _ _ ok)
def d4 (r : R4) : D := .tup [.tup [.int r.1.1,.int r.1.2],.tup [.int r.2.1,.int r.2.2]]
theorem prs_rp {H : Hp} {l : Addr} {qs : List (V × R4)} {rs : List R4} (L : Prs H l qs) (e : qs.map (·.2) = rs) : Rp H 8 (.ref l) (.lst (rs.map d4)) := by
  subst e
  rw [List.map_map]
  refine .lst L.lst (by simp) fun j x d a b => ?_
  rw [List.getElem?_map] at a b
  obtain ⟨q,hq,rfl⟩ := Option.map_eq_some_iff.mp a
  rw [hq] at b
  cases b
  obtain ⟨p,p1,p2,e0,e1,e2,e3⟩ := L.prs q (List.mem_of_getElem? hq)
  rw [e0]
  exact Rp.t2 e1 (Rp.t2 e2 .int .int) (Rp.t2 e3 .int .int)
theorem prs_rp9 {H : Hp} {l : Addr} {qs : List (V × R4)} {rs : List R4} (L : Prs H l qs) (e : qs.map (·.2) = rs) : Rp H 9 (.ref l) (.lst (rs.map d4)) := by
  subst e
  rw [List.map_map]
  refine .lst L.lst (by simp) fun j x d a b => ?_
  rw [List.getElem?_map] at a b
  obtain ⟨q,hq,rfl⟩ := Option.map_eq_some_iff.mp a
  rw [hq] at b
  cases b
  obtain ⟨p,p1,p2,e0,e1,e2,e3⟩ := L.prs q (List.mem_of_getElem? hq)
  rw [e0]
  exact Rp.t2 e1 (Rp.t2 e2 .int .int) (Rp.t2 e3 .int .int)
def dPap (w y : Str) (rs : List R4) : D := .tup [.str w,.str y,.lst (rs.map d4)]
theorem pap_rp {H : Hp} {p : Addr} {w y : Str} {rs : List R4} (h : Pap H p w y rs) : Rp H 9 (.ref p) (dPap w y rs) := by
  obtain ⟨l,qs,e,L,e2⟩ := h
  exact Rp.t3 e .str .str (prs_rp L e2)
def spRightP : Sp := fun vs H Q _ => ∃ x : Str,vs = [.str x] ∧ x.length ≤ 60000 ∧ ∀ H',Same H H' → Q (.bl true) H'
theorem S_law_right : FnScope ["text","due"] ["text"] (defScope (top 44)) := ⟨rfl,rfl,rfl,by decide +kernel,rfl,by decide +kernel,by decide +kernel⟩
theorem fn_law_right (D_law_right : Df K mg "_law_right" (top 44)) (F_law_paper_in : Fn P w K mg base "_law_paper_in" ["text"] 4 spLPp) (F_law_told_of : Fn P w K mg base "_law_told_of" ["text"] 6 spToldP) (T : Txt mg) : Fn P w K mg base "_law_right" ["text"] 7 spRightP := by
  refine D_law_right.fn S_law_right (fun _ _ _ _ _ _ us hl => match us,hl with | [_],_ => rfl) (fun vs H Q E h => ?_) (fun f cdv A outer s H vs Q E hr h => ?_)
  · obtain ⟨x,rfl,_⟩ := h
    rfl
  · obtain ⟨x,rfl,hl,q⟩ := h
    refine ⟨_,(pss_cons (ps_set (i := 1) S_law_right.nd rfl (Or.inl rfl) (pe_fn F_law_paper_in (hr.mono (by decide)) (by rfl) (pa_cons (pv 0) pa_nil))) (pss_cons (ps_if (pt_cmpR op_isN (pv 1) pe_non (nomark _)) (pss_one (ps_set (i := 1) S_law_right.nd rfl (Or.inl rfl) (pe_tupA (pa_cons pe_str (pa_cons pe_bl (pa_cons pe_bl (pa_cons pe_bl pa_nil))))))) pss_nil) (pss_one (ps_ret (pe_cmpR (op_eqD hr.units10) (pe_fn F_law_told_of (hr.mono (by decide)) (by rfl) (pa_cons (pv 0) pa_nil)) (pv 1) (nomark _)))))),?_⟩
    by_cases hw : ∃ w y rs,x = paperT w y rs ∧ OkP w y rs
    · obtain ⟨w,y,rs,e,ok⟩ := hw
      refine ⟨_,rfl,x,rfl,hl,.inl ⟨w,y,rs,e,ok,fun d H1 s1 P1 => ?_⟩⟩
      refine ⟨_,rfl,rfl,_,rfl,iteFalse rfl ?_⟩
      refine ⟨_,rfl,x,rfl,hl,.inl ⟨w,y,rs,e,ok,fun l H2 s2 P2 => ?_⟩⟩
      refine ⟨_,rfl,_,_,pap_rp P2,pap_rp (P1.mono s2),?_⟩
      rw [deq_self]
      exact q H2 (s1.trans s2)
    · have hno : ∀ w y rs,OkP w y rs → x ≠ paperT w y rs := fun w y rs ok e => hw ⟨w,y,rs,e,ok⟩
      refine ⟨_,rfl,x,rfl,hl,.inr ⟨hno,fun H1 s1 => ?_⟩⟩
      refine ⟨_,rfl,rfl,_,rfl,iteTrue rfl ?_⟩
      refine ⟨sz (by simp),fun d H2 s2 f2 n2 => ?_⟩
      refine ⟨_,rfl,x,rfl,hl,.inr ⟨hno,fun r H3 f3 s3 => ?_⟩⟩
      refine ⟨_,rfl,_,_,ref_rp f3,ref_rp (s3 _ _ f2),?_⟩
      rw [deq_self]
      exact q H3 (s1.trans (s2.trans s3))
def spFold6 (K : PySem.W.Frag) : Sp := fun vs H Q _ => ∃ (a : Addr) (cs : List Int),vs = [.ref a,.int 6] ∧ SqL K H a (cs.map V.int) ∧ cs.length ≤ 100 ∧ ∀ (r : Addr) (zs : List Int) (H' : Hp),H' r = some (.lst (zs.map V.int)) → Same H H' → Q (.ref r) H'
theorem S_law_folded : FnScope ["cells","many","found","k","cell"] ["cells","many"] (defScope (top 28)) := ⟨rfl,rfl,rfl,by decide +kernel,rfl,by decide +kernel,by decide +kernel⟩
theorem fn_law_folded (D_law_folded : Df K mg "_law_folded" (top 28)) (T : Txt mg) : Fn P w K mg base "_law_folded" ["cells","many"] 1 (spFold6 K) := by
  refine D_law_folded.fn S_law_folded (fun _ _ _ _ _ _ us hl => match us,hl with | [_,_],_ => rfl) (fun vs H Q E h => ?_) (fun f cdv A outer s H vs Q E hr h => ?_)
  · obtain ⟨a,cs,rfl,_⟩ := h
    rfl
  · obtain ⟨a,cs,rfl,ea,hc,q⟩ := h
    refine ⟨_,(pss_cons (ps_set (i := 2) S_law_folded.nd rfl (Or.inl rfl) (pe_op op_repA (pe_lstA (pa_cons pe_int pa_nil)) (pe_callB (call_min2 rfl) (by rfl) T.z_min bt_min (pa_cons (pv 1) (pa_cons (pe_callB (call_max2 rfl) (by rfl) T.z_max bt_max (pa_cons pe_int (pa_cons (pe_callB call_len_seq (by rfl) T.z_len bt_len (pa_cons (pv 0) pa_nil)) pa_nil))) pa_nil))))) (pss_cons (ps_for PassesOwn.never rfl (pi_enum rfl T.z_enumerate (pa_cons (pv 0) pa_nil)) (pg_tup rfl (pgs_cons (pg_name (i := 3) S_law_folded.nd rfl (Or.inl rfl)) (pgs_cons (pg_name (i := 4) S_law_folded.nd rfl (Or.inl rfl)) pgs_nil))) (pss_one (ps_asg (pe_op op_add (pe_op op_mulX (pe_ix ix_list (pv 2) (pe_op op_mod (pv 3) (pe_callB call_len_seq (by rfl) T.z_len bt_len (pa_cons (pv 2) pa_nil))) (fun _ _ => rfl)) pe_int) (pv 4)) (pg_sub (pv 2) (pe_op op_mod (pv 3) (pe_callB call_len_seq (by rfl) T.z_len bt_len (pa_cons (pv 2) pa_nil))) set_listA)))) (pss_one (ps_ret (pv 2))))),?_⟩
    have e63 : (2 : Int) ^ 63 = 9223372036854775808 := by decide
    have hcl : (cs.map V.int).length = cs.length := List.length_map _
    refine ⟨sz (by simp),fun c1 H1 s1 f1 n1 => ?_⟩
    refine ⟨_,rfl,_,rfl,a,_,rfl,.inl (s1.seq ea),_,_,rfl,_,_,rfl,?_⟩
    have hM : 1 ≤ (if (if (((cs.map V.int).length : Nat) : Int) > 1 then (((cs.map V.int).length : Nat) : Int) else 1) < 6 then (if (((cs.map V.int).length : Nat) : Int) > 1 then (((cs.map V.int).length : Nat) : Int) else 1) else 6) ∧ (if (if (((cs.map V.int).length : Nat) : Int) > 1 then (((cs.map V.int).length : Nat) : Int) else 1) < 6 then (if (((cs.map V.int).length : Nat) : Int) > 1 then (((cs.map V.int).length : Nat) : Int) else 1) else 6) ≤ 6 := by
      split <;> split <;> omega
    generalize (if (if (((cs.map V.int).length : Nat) : Int) > 1 then (((cs.map V.int).length : Nat) : Int) else 1) < 6 then (if (((cs.map V.int).length : Nat) : Int) > 1 then (((cs.map V.int).length : Nat) : Int) else 1) else 6) = M at hM
    refine ⟨c1,_,_,rfl,rfl,f1,by rw [e63]; omega,by rw [e63]; omega,sz (by simp; omega),fun r H2 s2 f2 n2 => ?_⟩
    rw [List.flatten_replicate_singleton,show List.replicate M.toNat (V.int 0) = (List.replicate M.toNat 0).map V.int from List.map_replicate.symm] at f2
    have nr : H r = none := s1.free n2
    have ea2 := (s1.trans s2).seq ea
    refine ⟨_,rfl,a,rfl,⟨_,ea2⟩,for_enum (K := K) (a := a) (xs := cs.map V.int) (fun i σ H3 => ∃ (z1 z2 : Option V) (zs : List Int),σ = [some (.ref a),some (.int 6),some (.ref r),z1,z2] ∧ zs.length = M.toNat ∧ H3 r = some (.lst (zs.map V.int)) ∧ Same H H3)
      ⟨_,_,_,rfl,by simp,f2,s1.trans s2⟩ (fun i σ H3 _ ⟨_,_,_,_,_,_,s3⟩ => s3.seq ea) ?_ ?_⟩
    · rintro i x pp σ H3 H4 hx ⟨z1,z2,zs,rfl,hz,e3,s3⟩ s4 f4
      rw [List.getElem?_map] at hx
      obtain ⟨c,hc',rfl⟩ := Option.map_eq_some_iff.mp hx
      have e4 := s4 _ _ e3
      have hzl : (((zs.map V.int).length : Nat) : Int) = M := by rw [List.length_map,hz]; omega
      have m0 := Int.emod_nonneg (i : Int) (show M ≠ 0 by omega)
      have m1 := Int.emod_lt_of_pos (i : Int) (show 0 < M by omega)
      refine ⟨pp,_,rfl,SqT.of f4,rfl,_,_,rfl,_,_,rfl,rfl,?_⟩
      refine ⟨_,rfl,_,rfl,_,rfl,r,_,rfl,.inl (SqL.of e4),_,_,rfl,rfl,by rw [hzl]; omega,?_⟩
      rw [hzl]
      refine ⟨r,_,_,_,rfl,rfl,SqL.of e4,at_int ((i : Int) % M).toNat (by omega) (by omega),_,_,rfl,rfl,CM.r ⟨by decide,by decide⟩,_,rfl,_,_,rfl,rfl,?_⟩
      refine ⟨_,rfl,_,rfl,_,rfl,r,_,rfl,.inl (SqL.of e4),_,_,rfl,rfl,by rw [hzl]; omega,?_⟩
      rw [hzl]
      refine ⟨r,_,_,_,rfl,rfl,e4,ixN_of m0 (by rw [hzl]; exact m1),fun H5 u => ?_⟩
      exact ⟨_,_,zs.set ((i : Int) % M).toNat (zs[((i : Int) % M).toNat]'(by omega) * 7 + c),rfl,by rw [List.length_set]; exact hz,by rw [u.now,← List.map_set],u.same (s3.trans s4) nr⟩
    · rintro σ H3 ⟨z1,z2,zs,rfl,hz,e3,s3⟩
      exact ⟨_,rfl,q r zs H3 e3 s3⟩
theorem slice_to_len {y : Str} {j : Int} (h0 : 0 ≤ j) (h1 : j ≤ y.length) : ((Txt.slice y none (some j)).length : Int) = j := by
  have := beq_iff_eq.mp (PyProof.Rows.slice_closes_toL (x := y) (j := j) h0 h1)
  rw [this,← len_toList]
  have hl := len_toList y
  simp only [List.toList_toArray,List.length_take,List.length_drop]
  omega
theorem slice_from_len {y : Str} {j : Int} (h0 : 0 ≤ j) (h1 : j ≤ y.length + 1) : ((Txt.slice y (some j) none).length : Int) ≤ y.length - j + 1 := by
  by_cases h : (y.length : Int) ≤ j
  · rw [PyProof.Rows.slice_beyond h]
    show (0 : Int) ≤ _
    omega
  · rw [PyProof.Rows.slice_from_eq (x := y) (i := j) (b := y.length) h0 (by omega) rfl,← len_toList]
    have hl := len_toList y
    simp only [List.toList_toArray,List.length_take,List.length_drop]
    omega
def spAlt : Sp := fun vs H Q _ => ∃ (p : Addr) (x : Str) (m k : Int),vs = [.ref p,.str x,.int m] ∧ Pot H p k ∧ k ≤ 800000 ∧ x.length ≤ 51000 ∧ (0 ≤ m ∧ m ≤ 3) ∧ ∀ (y : Str) (H' : Hp),y.length ≤ x.length + 6 → But p H H' → Pot H' p (k + 20) → Q (.str y) H'
theorem signs18 : (Str.ofString "0123456789-/+ .,:x").cps.toList.length = 18 := by decide +kernel
theorem S_law_altered : FnScope ["pot","text","many","made","turn","at","sign"] ["pot","text","many"] (defScope (top 38)) := ⟨rfl,rfl,rfl,by decide +kernel,rfl,by decide +kernel,by decide +kernel⟩
theorem fn_law_altered (D_law_altered : Df K mg "_law_altered" (top 38)) (F_law_take : Fn P w K mg base "_law_take" ["pot","size"] 1 Dr.spTk) (T : Txt mg) : Fn P w K mg base "_law_altered" ["pot","text","many"] 2 spAlt := by
  refine D_law_altered.fn S_law_altered (fun _ _ _ _ _ _ us hl => match us,hl with | [_,_,_],_ => rfl) (fun vs H Q E h => ?_) (fun f cdv A outer s H vs Q E hr h => ?_)
  · obtain ⟨p,x,m,k,rfl,_⟩ := h
    rfl
  · obtain ⟨p,x,m,k,rfl,pt,hk,hx,⟨hm0,hm1⟩,q⟩ := h
    refine ⟨_,(pss_cons (ps_set (i := 3) S_law_altered.nd rfl (Or.inl rfl) (pv 1)) (pss_cons (ps_for PassesOwn.never rfl (pi_range1 rfl T.z_range (pa_cons (pe_fn F_law_take (hr.mono (by decide)) (by rfl) (pa_cons (pv 0) (pa_cons (pe_op op_add (pv 2) pe_int) pa_nil))) pa_nil)) (pg_name (i := 4) S_law_altered.nd rfl (Or.inl rfl)) (pss_cons (ps_set (i := 5) S_law_altered.nd rfl (Or.inl rfl) (pe_fn F_law_take (hr.mono (by decide)) (by rfl) (pa_cons (pv 0) (pa_cons (pe_op op_add (pe_callB call_len_str (by rfl) T.z_len bt_len (pa_cons (pv 3) pa_nil)) pe_int) pa_nil)))) (pss_cons (ps_set (i := 6) S_law_altered.nd rfl (Or.inl rfl) (pe_ix ix_str pe_str (pe_fn F_law_take (hr.mono (by decide)) (by rfl) (pa_cons (pv 0) (pa_cons pe_int pa_nil))) (fun _ _ => rfl))) (pss_one (ps_set (i := 3) S_law_altered.nd rfl (Or.inl rfl) (pe_op op_add_str (pe_op op_add_str (pe_slice sl_strS (pv 3) po_none (po_some (pv 5))) (pe_ix ix_list (pe_lstA (pa_cons pe_str (pa_cons (pv 6) (pa_cons (pv 6) pa_nil)))) (pe_fn F_law_take (hr.mono (by decide)) (by rfl) (pa_cons (pv 0) (pa_cons pe_int pa_nil))) (fun _ _ => rfl))) (pe_slice sl_strS (pv 3) (po_some (pe_op op_add (pv 5) (pe_fn F_law_take (hr.mono (by decide)) (by rfl) (pa_cons (pv 0) (pa_cons pe_int pa_nil))))) po_none))))))) (pss_one (ps_ret (pv 3))))),?_⟩
    refine ⟨_,rfl,?_⟩
    refine ⟨_,rfl,_,rfl,_,_,rfl,rfl,p,_,_,rfl,pt,by omega,⟨by omega,bits_le (bits_small (by omega) (by omega)) (by decide)⟩,fun r H1 a1 b1' b1 p1 => ?_⟩
    refine ⟨r,rfl,by omega,by omega,for_range (n := r.toNat) (lo := 0) (fun i σ H2 => ∃ (y : Str) (z4 z5 z6 : Option V),σ = [some (.ref p),some (.str x),some (.int m),some (.str y),z4,z5,z6] ∧ y.length ≤ x.length + 2 * i ∧ i ≤ r.toNat ∧ But p H H2 ∧ Pot H2 p (k + 1 + 4 * (i : Int))) ⟨_,_,_,_,rfl,by simp,Nat.zero_le _,b1,p1.mono (by omega)⟩ ?_ ?_⟩
    · rintro i σ H2 hi ⟨y,z4,z5,z6,rfl,hy,hir,b2,p2⟩
      have hi3 : i ≤ 2 := by omega
      have hyl : y.length ≤ 51020 := by omega
      refine ⟨_,rfl,_,rfl,y,rfl,line_sz (by omega),_,_,rfl,rfl,p,_,_,rfl,p2,by omega,⟨by omega,bits_le (bits_of (n := 20) (by show _ < 1048576; omega)) (by decide)⟩,fun at_ H3 a3 b3' b3 p3 => ?_⟩
      refine ⟨_,rfl,p,_,_,rfl,p3,by omega,⟨by decide,by decide⟩,fun r4 H4 a4 b4' b4 p4 => ?_⟩
      obtain ⟨c,e4,_⟩ := Sp1.atI_mem (xs := (Str.ofString "0123456789-/+ .,:x").cps.toList) a4 (by rw [signs18]; exact b4')
      refine ⟨_,r4,c,rfl,rfl,line_sz (by decide),e4,?_⟩
      have l1 := Txt.slice_le y none (some at_)
      refine ⟨_,rfl,_,rfl,_,rfl,y,rfl,line_sz (by omega),?_⟩
      refine ⟨_,rfl,_,rfl,sz (by simp),fun l5 H5 s5 f5 n5 => ?_⟩
      have np5 := Pot.ne p4 n5
      have p5 := p4.same s5
      refine ⟨_,rfl,p,_,_,rfl,p5,by omega,⟨by decide,by decide⟩,fun r6 H6 a6 b6' b6 p6 => ?_⟩
      refine menu (b6 _ _ np5 f5) a6 (by simpa using b6') fun v hv => ?_
      obtain ⟨sg,rfl,hsg⟩ : ∃ sg : Str,v = V.str sg ∧ sg.length ≤ 1 := by
        simp only [List.mem_cons,List.not_mem_nil,or_false] at hv
        rcases hv with rfl | rfl | rfl
        · exact ⟨_,rfl,by decide⟩
        · exact ⟨_,rfl,Nat.le_refl 1⟩
        · exact ⟨_,rfl,Nat.le_refl 1⟩
      refine ⟨_,_,rfl,rfl,line_sz (by omega),?_⟩
      refine ⟨_,rfl,_,rfl,_,rfl,p,_,_,rfl,p6,by omega,⟨by decide,by decide⟩,fun r7 H7 a7 b7' b7 p7 => ?_⟩
      have l2 := Txt.slice_le y (some (at_ + r7)) none
      have g1 := slice_to_len (y := y) (j := at_) (by omega) (by omega)
      have g2 := slice_from_len (y := y) (j := at_ + r7) (by omega) (by omega)
      refine ⟨_,_,rfl,rfl,_,rfl,y,rfl,line_sz (by omega),_,_,rfl,rfl,line_sz (by rw [Str.length_append]; omega),?_⟩
      refine ⟨_,_,_,_,rfl,?_,hi,b2.trans (b3.trans (b4.trans ((But.of s5).trans (b6.trans b7)))),p7.mono (by omega)⟩
      rw [Str.length_append,Str.length_append]
      omega
    · rintro σ H2 ⟨y,z4,z5,z6,rfl,hy,hir,b2,p2⟩
      exact ⟨_,rfl,q y H2 (by omega) b2 (p2.mono (by omega))⟩
theorem pot_upd {p l : Addr} {H H' : Hp} {xs ys : List V} {k : Int} (u : Upd H H' l xs ys) (pt : Pot H p k) (n : l ≠ p) : Pot H' p k := by
  obtain ⟨x,y,z,ep,rest⟩ := pt
  exact ⟨x,y,z,u.at (Ne.symm n) ep,rest⟩
theorem but_upd {p l : Addr} {H0 H H' : Hp} {xs ys : List V} (b : But p H0 H) (u : Upd H H' l xs ys) (n : H0 l = none) : But p H0 H' := fun c o nc e => u.at (fun z => by subst z; rw [n] at e; cases e) (b c o nc e)
def J (ws : List Str) : Nat := (ws.map fun x => x.length).sum + ws.length
def spMov : Sp := fun vs H Q _ => ∃ (p : Addr) (x : Str) (k : Int),vs = [.ref p,.str x] ∧ Pot H p k ∧ k ≤ 800000 ∧ (x.length ≤ 51000 ∧ 1 ≤ (Txt.split x (Str.ofString " ")).length ∧ (Txt.split x (Str.ofString " ")).length ≤ 202 ∧ (∀ w ∈ Txt.split x (Str.ofString " "),w.length ≤ 300) ∧ J (Txt.split x (Str.ofString " ")) ≤ 51000) ∧ ∀ (y : Str) (H' : Hp),y.length ≤ 52000 → But p H H' → Pot H' p (k + 20) → Q (.str y) H'
theorem J_app (a b : List Str) : J (a ++ b) = J a + J b := by
  unfold J
  rw [List.map_append,List.sum_append,List.length_append]
  omega
theorem J_cons (a : Str) (b : List Str) : J (a :: b) = a.length + 1 + J b := by
  unfold J
  simp only [List.map_cons,List.sum_cons,List.length_cons]
  omega
theorem J_rev (a : List Str) : J a.reverse = J a := by
  unfold J
  rw [List.map_reverse,List.sum_reverse,List.length_reverse]
theorem J_join {ws : List Str} : (Txt.join (Str.ofString " ") ws).length ≤ J ws := by
  have h1 := StrLaws.join_length_le ⟨#[32]⟩ ws
  have h3 : (⟨#[32]⟩ : Str).length = 1 := rfl
  rw [h3] at h1
  rw [blank_one,show Txt.join ⟨#[32]⟩ ws = Str.join ⟨#[32]⟩ ws from StrLaws.glued_eq_join _ _]
  unfold J
  omega
theorem J_set {ws : List Str} {n : Nat} {y : Str} (hy : y.length ≤ 300) : J (ws.set n y) ≤ J ws + 301 := by
  induction ws generalizing n with
  | nil => simp [J]
  | cons a r ih =>
    cases n with
    | zero =>
      rw [List.set_cons_zero,J_cons,J_cons]
      omega
    | succ m =>
      rw [List.set_cons_succ,J_cons,J_cons]
      have := ih (n := m)
      omega
theorem J_erase {ws : List Str} {n : Nat} : J (ws.eraseIdx n) ≤ J ws := by
  induction ws generalizing n with
  | nil => simp [J]
  | cons a r ih =>
    cases n with
    | zero =>
      rw [List.eraseIdx_cons_zero,J_cons]
      omega
    | succ m =>
      rw [List.eraseIdx_cons_succ,J_cons,J_cons]
      have := ih (n := m)
      omega
theorem er_map (ws : List Str) (n : Nat) : (ws.map V.str).eraseIdx n = (ws.eraseIdx n).map V.str := by
  rw [List.eraseIdx_eq_take_drop_succ,List.eraseIdx_eq_take_drop_succ,List.map_append,List.map_take,List.map_drop]
theorem J_le {ws : List Str} (h : ∀ w ∈ ws,w.length ≤ 300) : J ws ≤ 301 * ws.length := by
  induction ws with
  | nil => simp [J]
  | cons a r ih =>
    rw [J_cons,List.length_cons]
    have h1 := h a (.head _)
    have h2 := ih fun w hw => h w (.tail _ hw)
    omega
theorem cut_str (ws : List Str) (i : Int) (h0 : 0 ≤ i) (h1 : i < (ws.length : Int)) : ∃ c : List Str,cutV (ws.map V.str) (some i) (some (i + 2)) = c.map V.str ∧ c.length ≤ 2 ∧ ∀ w ∈ c,w ∈ ws := by
  unfold cutV HT.sIx
  dsimp only
  rw [if_neg (by omega),if_neg (by omega),List.length_map]
  refine ⟨(ws.drop (min i.toNat ws.length)).take (min (i + 2).toNat ws.length - min i.toNat ws.length),by rw [List.map_take,List.map_drop],?_,fun w hw => List.mem_of_mem_drop (List.mem_of_mem_take hw)⟩
  rw [List.length_take]
  omega
theorem J_take (n : Nat) (ws : List Str) : J (ws.take n) + J (ws.drop n) = J ws := by
  rw [← J_app,List.take_append_drop]
theorem S_law_words_moved : FnScope ["pot","text","words","at","turn"] ["pot","text"] (defScope (top 45)) := ⟨rfl,rfl,rfl,by decide +kernel,rfl,by decide +kernel,by decide +kernel⟩
theorem fn_law_words_moved (D_law_words_moved : Df K mg "_law_words_moved" (top 45)) (F_law_take : Fn P w K mg base "_law_take" ["pot","size"] 1 Dr.spTk) (T : Txt mg) : Fn P w K mg base "_law_words_moved" ["pot","text"] 2 spMov := by
  refine D_law_words_moved.fn S_law_words_moved (fun _ _ _ _ _ _ us hl => match us,hl with | [_,_],_ => rfl) (fun vs H Q E h => ?_) (fun f cdv A outer s H vs Q E hr h => ?_)
  · obtain ⟨p,x,k,rfl,_⟩ := h
    rfl
  · obtain ⟨p,x,k,rfl,p0,hk,⟨hx,h1,h2,hw,hJ⟩,q⟩ := h
    have hpl := PyProof.Rows.split_le x (Str.ofString " ")
    have R : ∃ u : TS,PSs (cxOf CX0 P w K mg base ["pot","text","words","at","turn"] "_law_words_moved" (defScope (top 45)) f cdv A outer s H E).nox ((defBody (top 45)).drop 4) u ∧ ∀ (l : Addr) (ws : List Str) (z3 z4 : Option V) (H3 : Hp),H3 l = some (.lst (ws.map V.str)) → J ws ≤ 51700 → But p H H3 → Pot H3 p (k + 5) → u { nx := fun _ H' => Q .non H',rt := Q } [some (.ref p),some (.str x),some (.ref l),z3,z4] H3 := by
      refine ⟨_,(pss_one (ps_ret (pe_bm PySem.F.plainAttrs_str PySem.F.slot_str_join PySem.F.type_str_join mt_join pe_str (pa_cons (pv 2) pa_nil)))),fun l ws z3 z4 H3 f3 hj b3 p3 => ?_⟩
      have hz := J_join (ws := ws)
      refine ⟨rfl,_,rfl,_,l,_,rfl,rfl,SqL.of f3,?_,q _ H3 (by omega) b3 (p3.mono (by omega))⟩
      have h3 : (Str.ofString " ").length = 1 := rfl
      unfold J at hj
      rw [h3]
      omega
    obtain ⟨u,hu,rd⟩ := R
    refine ⟨_,(pss_cons (ps_set (i := 2) S_law_words_moved.nd rfl (Or.inl rfl) (pe_bm PySem.F.plainAttrs_str PySem.F.slot_str_split PySem.F.type_str_split mt_split (pv 1) (pa_cons pe_str pa_nil))) (pss_cons (ps_set (i := 3) S_law_words_moved.nd rfl (Or.inl rfl) (pe_fn F_law_take (hr.mono (by decide)) (by rfl) (pa_cons (pv 0) (pa_cons (pe_callB call_len_seq (by rfl) T.z_len bt_len (pa_cons (pv 2) pa_nil)) pa_nil)))) (pss_cons (ps_set (i := 4) S_law_words_moved.nd rfl (Or.inl rfl) (pe_fn F_law_take (hr.mono (by decide)) (by rfl) (pa_cons (pv 0) (pa_cons pe_int pa_nil)))) (pss_cons (ps_if (pt_cmpR op_eq (pv 4) pe_int (nomark _)) (pss_one (ps_expr (pe_bm PySem.F.plainAttrs_list PySem.F.slot_list_pop PySem.F.type_list_pop mt_popAtA (pv 2) (pa_cons (pv 3) pa_nil)))) (pss_one (ps_if (pt_cmpR op_eq (pv 4) pe_int (nomark _)) (pss_one (ps_expr (pe_bm PySem.F.plainAttrs_list PySem.F.slot_list_insert PySem.F.type_list_insert mt_insA (pv 2) (pa_cons (pv 3) (pa_cons (pe_ix ix_list (pv 2) (pv 3) (fun _ _ => rfl)) pa_nil))))) (pss_one (ps_if (pt_cmpR op_eq (pv 4) pe_int (nomark _)) (pss_one (ps_asg (pe_ix ix_list (@pe_lstA _ _ _ _ (@pa_cons _ _ _ _ _ pe_str (@pa_cons _ _ _ _ _ pe_str (@pa_cons _ _ _ _ _ pe_str (@pa_cons _ _ _ _ _ pe_str (@pa_cons _ _ _ _ _ pe_str (@pa_cons _ _ _ _ _ pe_str (@pa_cons _ _ _ _ _ pe_str (@pa_cons _ _ _ _ _ pe_str (@pa_cons _ _ _ _ _ pe_str pa_nil (by rfl)) (by rfl)) (by rfl)) (by rfl)) (by rfl)) (by rfl)) (by rfl)) (by rfl)) (by rfl))) (pe_fn F_law_take (hr.mono (by decide)) (by rfl) (pa_cons (pv 0) (pa_cons pe_int pa_nil))) (fun _ _ => rfl)) (pg_sub (pv 2) (pv 3) set_listA))) (pss_one (ps_asg (pe_list_rev rfl rfl T.z_list rfl T.z_reversed (pe_slice sl_listA (pv 2) (po_some (pv 3)) (po_some (pe_op op_add (pv 3) pe_int)))) (pg_slc (pv 2) (po_some (pv 3)) (po_some (pe_op op_add (pv 3) pe_int)))))))))) hu)))),?_⟩
    refine ⟨_,rfl,rfl,_,_,rfl,rfl,rfl,by omega,fun l1 H1 s1 f1 n1 => ?_⟩
    generalize Txt.split x (Str.ofString " ") = ws at *
    have p1 := p0.same s1
    have np : l1 ≠ p := Pot.ne p0 n1
    refine ⟨_,rfl,_,rfl,l1,_,rfl,.inl (SqL.of f1),p,_,_,rfl,p1,by omega,⟨by simp; omega,bits_le (bits_small (by simp) (by simp; omega)) (by decide)⟩,fun at_ H2 a2 b2' b2 p2 => ?_⟩
    refine ⟨_,rfl,p,_,_,rfl,p2,by omega,⟨by decide,by decide⟩,fun tn H3 a3 b3' b3 p3 => ?_⟩
    have f3 := b3 _ _ np (b2 _ _ np f1)
    have B3 : But p H H3 := (But.of s1).trans (b2.trans b3)
    have hat : at_.toNat < ws.length := by
      rw [List.length_map] at b2'
      omega
    have hix : ixN (ws.map V.str).length at_ = some at_.toNat := ixN_of a2 b2'
    have hsi : seqIndex? at_ (ws.map V.str).length = some at_.toNat := (ixN_seq hix).1
    have hget : (ws.map V.str)[at_.toNat]? = some (.str ws[at_.toNat]) := by
      rw [List.getElem?_map,List.getElem?_eq_getElem hat]
      rfl
    have hwl := hw _ (List.getElem_mem hat)
    have hend : ∀ (ys : List Str) (Ha Hb : Hp),But p H Ha → Pot Ha p (k + 5) → Upd Ha Hb l1 (ws.map V.str) (ys.map V.str) → J ys ≤ 51700 → u { nx := fun _ H' => Q .non H',rt := Q } [some (.ref p),some (.str x),some (.ref l1),some (.int at_),some (.int tn)] Hb := fun ys Ha Hb ba pa ub hj => rd l1 ys _ _ Hb ub.now hj (but_upd ba ub n1) (pot_upd ub pa np)
    refine ⟨_,rfl,rfl,_,rfl,ite3 (fun c1 => ?_) (fun c1 => ?_)⟩
    · refine ⟨_,rfl,.inl ⟨rfl,_,SqL.of f3⟩,_,rfl,l1,_,_,_,_,rfl,rfl,f3,by omega,by rw [List.length_map] at b2'; omega,hsi,hget,fun H4 u4 => ?_⟩
      rw [er_map] at u4
      exact hend _ _ _ B3 (p3.mono (by omega)) u4 (Nat.le_trans J_erase (by omega))
    have hatI : atI (ws.map V.str) at_ = some (.str ws[at_.toNat]) := by
      have := atI_nat hget
      rw [show ((at_.toNat : Nat) : Int) = at_ by omega] at this
      exact this
    refine ⟨_,rfl,rfl,_,rfl,ite3 (fun c1 => ?_) (fun c1 => ?_)⟩
    · refine ⟨_,rfl,.inl ⟨rfl,_,SqL.of f3⟩,_,rfl,_,rfl,_,rfl,l1,_,_,_,rfl,rfl,SqL.of f3,hatI,l1,_,_,_,rfl,rfl,f3,⟨a2,Int.le_of_lt b2'⟩,by rw [List.length_map]; omega,fun H4 u4 => ?_⟩
      refine hend (ws.take at_.toNat ++ [ws[at_.toNat]] ++ ws.drop at_.toNat) _ _ B3 (p3.mono (by omega)) (by rw [List.map_append,List.map_append,List.map_take,List.map_drop]; exact u4) ?_
      have g := J_take at_.toNat ws
      rw [J_app,J_app,J_cons]
      have : J [] = 0 := rfl
      omega
    refine ⟨_,rfl,rfl,_,rfl,ite3 (fun c1 => ?_) (fun c1 => ?_)⟩
    · refine ⟨sz (by simp),fun lm H4 s4 f4 n4 => ?_⟩
      have nm : lm ≠ p := Pot.ne p3 n4
      refine ⟨_,rfl,p,_,_,rfl,p3.same s4,by omega,⟨by decide,by decide⟩,fun r5 H5 a5 b5' b5 p5 => ?_⟩
      have f5 := b5 _ _ np (s4 _ _ f3)
      refine menu (b5 _ _ nm f4) a5 (by simpa using b5') fun v hv => ?_
      obtain ⟨y,rfl,hy⟩ : ∃ y : Str,v = .str y ∧ y.length ≤ 300 := by
        simp only [List.mem_cons,List.not_mem_nil,or_false] at hv
        rcases hv with rfl | rfl | rfl | rfl | rfl | rfl | rfl | rfl | rfl <;> exact ⟨_,rfl,by decide⟩
      refine ⟨_,rfl,_,rfl,l1,_,_,_,rfl,rfl,f5,hix,fun H6 u6 => ?_⟩
      rw [← List.map_set] at u6
      exact hend _ _ _ (B3.trans ((But.of s4).trans b5)) (p5.mono (by omega)) u6 (Nat.le_trans (J_set hy) (by omega))
    · obtain ⟨c,ec,hc2,hcm⟩ := cut_str ws at_ a2 (by rw [List.length_map] at b2'; exact b2')
      refine ⟨_,rfl,_,rfl,_,rfl,_,rfl,_,_,rfl,rfl,_,rfl,l1,_,rfl,SqL.of f3,fun l4 H4 s4 f4 n4 => ?_⟩
      rw [ec] at f4
      refine ⟨l4,_,rfl,SqL.of f4,fun l5 H5 s5 f5 n5 => ?_⟩
      have f5' := s5 _ _ (s4 _ _ f3)
      have n15 : l1 ≠ l5 := ne_of_none (s4 _ _ f3) n5
      refine ⟨_,rfl,_,rfl,_,rfl,_,rfl,_,_,rfl,rfl,_,rfl,l1,l5,_,_,_,_,rfl,rfl,rfl,rfl,n15,f5',f5,a2,by omega,Int.le_of_lt b2',sz (by simp; omega),?_⟩
      refine hend (ws.take at_.toNat ++ c.reverse ++ ws.drop (at_ + 2).toNat) H5 _ (B3.trans ((But.of s4).trans (But.of s5))) ((p3.same (s4.trans s5)).mono (by omega)) ?_ ?_
      · have := Upd.mk' (ys := (ws.map V.str).take at_.toNat ++ (c.map V.str).reverse ++ (ws.map V.str).drop (at_ + 2).toNat) f5'
        simpa using this
      have g := J_take at_.toNat ws
      have g2 := J_take (at_ + 2).toNat ws
      have g3 := J_le (ws := c) fun w hw' => hw w (hcm w hw')
      rw [J_app,J_app,J_rev]
      have g4 : J (ws.drop (at_ + 2).toNat) ≤ J (ws.drop at_.toNat) := by
        rw [show (at_ + 2).toNat = at_.toNat + 2 by omega,← List.drop_drop]
        have := J_take 2 (ws.drop at_.toNat)
        omega
      omega
theorem showR60 {a b : Int} (ha : a.natAbs < 10 ^ 60) (hb : b.natAbs ≤ 10 ^ 60) : (showR a b).length ≤ 124 := by
  have l1 := num_len (k := 60) (by decide) ha
  have l2 := num_len (k := 61) (n := b) (by decide) (Nat.lt_of_le_of_lt hb (by decide))
  have l3 : slash.length = 1 := rfl
  unfold showR
  split
  · omega
  · rw [Str.length_append,Str.length_append]
    omega
theorem ok4_of {a b c d : Int} (h1 : Low a b) (h2 : Low c d) (ha : a.natAbs < 10 ^ 60) (hb : b.natAbs ≤ 10 ^ 60) (hc : c.natAbs < 10 ^ 60) (hd : d.natAbs ≤ 10 ^ 60) : Ok4 ((a,b),(c,d)) := by
  have w60 : (10 : Nat) ^ 60 < 10 ^ 1000 := Nat.pow_lt_pow_right (by decide) (by decide)
  refine ⟨⟨⟨h1,Nat.lt_trans ha w60,Nat.lt_of_le_of_lt hb w60⟩,⟨h2,Nat.lt_trans hc w60,Nat.lt_of_le_of_lt hd w60⟩⟩,?_⟩
  have l1 := showR60 ha hb
  have l2 := showR60 hc hd
  have l3 : colon.length = 1 := rfl
  unfold pairT
  rw [Str.length_append,Str.length_append]
  dsimp only
  omega
theorem word5 : ∀ w ∈ wordsL,w.length ≤ 5 := by decide +kernel
theorem way5 : ∀ w ∈ waysL,w.length ≤ 5 := by decide +kernel
theorem J_paper {w y : Str} {rs : List R4} (h : ∀ r ∈ rs,(pairT r).length ≤ 249) (hl : rs.length ≤ 200) (hw : w.length ≤ 5 ∧ y.length ≤ 5) : J (w :: y :: rs.map pairT) ≤ 51000 := by
  have := paper_sum h hl hw
  unfold J
  simp only [List.length_cons,List.length_map]
  omega
theorem rep_prs {H : Hp} {l : Addr} {q : V × R4} {n : Nat} (e : H l = some (.lst (List.replicate n [q.1]).flatten)) (h : PrT H q.1 q.2) : Prs H l (List.replicate n q) := ⟨by
    rw [e]
    congr 2
    induction n with
    | zero => rfl
    | succ m ih => simp [List.replicate_succ] at ih ⊢,fun z hz => by
    rw [(List.mem_replicate.mp hz).2]
    exact h⟩
theorem S_law : FnScope ["script","cell","pot","word","way","pairs","handed","text","told"] ["script"] (defScope (top 46)) := ⟨rfl,rfl,rfl,by decide +kernel,rfl,by decide +kernel,by decide +kernel⟩
theorem fn_law {C9 : Addr} (D_law : Df K mg "law" (top 46)) (F_law_folded : Fn P w K mg base "_law_folded" ["cells","many"] 1 (spFold6 K)) (F_law_begun : Fn P w K mg base "_law_begun" ["cell"] 1 Dr.spBegun) (F_law_drawn : Fn P w K mg base "_law_drawn" ["pot"] 3 spDrawn) (F_show_paper : Fn P w K mg base "show_paper" ["word","way","pairs"] 3 spShPp) (F_law_paper_text : Fn P w K mg base "_law_paper_text" ["word","way","pairs"] 2 spShPp) (F_law_right : Fn P w K mg base "_law_right" ["text"] 7 spRightP) (F_read_paper : Fx P w K mg base "read_paper" ["text"] 5 [] (spReadPp C9)) (F_law_altered : Fn P w K mg base "_law_altered" ["pot","text","many"] 2 spAlt) (F_law_words_moved : Fn P w K mg base "_law_words_moved" ["pot","text"] 2 spMov) (F_law_take : Fn P w K mg base "_law_take" ["pot","size"] 1 Dr.spTk) (T : Txt mg) : Fn P w K mg base "law" ["script"] 8 (spLaw K) := by
  refine D_law.fn S_law (fun _ _ _ _ _ _ us hl => match us,hl with | [_],_ => rfl) (fun vs H Q E h => ?_) (fun f cdv A outer s H vs Q E hr h => ?_)
  · obtain ⟨sa,ss,rfl,_⟩ := h
    rfl
  · obtain ⟨sa,ss,rfl,hS,hlen,fin⟩ := h
    have CN : CompN (cxOf CX0 P w K mg base ["script","cell","pot","word","way","pairs","handed","text","told"] "law" (defScope (top 46)) f cdv A outer s H E).nox (setScope ((forBody ((defBody (top 46)).getD 0 (.Pass ⟨0,0,0,0⟩))).getD 3 (.Pass ⟨0,0,0,0⟩))) [("pot",s.heap.objs.size + 1)] "k" [("pot",2)] :=
      ⟨by rfl,rfl,by decide +kernel,by decide +kernel,rfl,(fun p hp => by rw [List.mem_singleton.mp hp]; rfl),by rfl,by decide +kernel,(fun p hp => by rw [List.mem_singleton.mp hp]; exact ⟨rfl,rfl,.inr (.inl rfl),rfl,rfl⟩),⟨rfl,rfl⟩,rfl⟩
    have R1 : ∃ u : TS,PSs (cxOf CX0 P w K mg base ["script","cell","pot","word","way","pairs","handed","text","told"] "law" (defScope (top 46)) f cdv A outer s H E).nox ((forBody ((defBody (top 46)).getD 0 (.Pass ⟨0,0,0,0⟩))).drop 5) u ∧ ∀ (D : L2.Ends) (H5 : Hp) (p l : Addr) (qs : List (V × R4)) (w_ y_ : Str) (k : Int) (z0 z1 z6 z7 z8 : Option V),Pot H5 p k → k ≤ 1000 → Prs H5 l qs → (1 ≤ qs.length ∧ qs.length ≤ 200) → (∀ q ∈ qs,Ok4 q.2) → w_ ∈ wordsL → y_ ∈ waysL → l ≠ p → (∀ (z6 z7 z8 : Option V) (H' : Hp),But p H5 H' → D.nx [z0,z1,some (.ref p),some (.str w_),some (.str y_),some (.ref l),z6,z7,z8] H') → u D [z0,z1,some (.ref p),some (.str w_),some (.str y_),some (.ref l),z6,z7,z8] H5 := by
      refine ⟨_,(pss_cons (ps_set (i := 6) S_law.nd rfl (Or.inl rfl) (pe_callTy call_list_ofA (by rfl) T.z_list bt_list (pa_cons (pv 5) pa_nil))) (pss_cons (ps_set (i := 7) S_law.nd rfl (Or.inl rfl) (pe_fn F_show_paper (hr.mono (by decide)) (by rfl) (pa_cons (pv 3) (pa_cons (pv 4) (pa_cons (pv 6) pa_nil))))) (pss_cons (ps_if (pw_or (pt_not (pt_val (pe_callB call_isinst (by rfl) T.z_isinstance bt_isinstance (pa_cons (pv 7) (pa_cons (pe_ty T.z_str bt_str) pa_nil))))) (pw_or (pt_cmpR op_ne (pv 7) (pe_fn F_law_paper_text (hr.mono (by decide)) (by rfl) (pa_cons (pv 3) (pa_cons (pv 4) (pa_cons (pv 5) pa_nil)))) (nomark _)) (pw_or1 (pt_cmpR (op_neD hr.units10) (pv 6) (pv 5) (nomark _))))).pt (pss_one (ps_ret pe_bl)) pss_nil) (pss_cons (ps_set (i := 8) S_law.nd rfl (Or.inl rfl) (pe_fx0 F_read_paper (hr.mono (by decide)) (by rfl) (pa_cons (pv 7) pa_nil))) (pss_cons (ps_if (pw_or (pt_not (pt_val (pe_callB call_isinst (by rfl) T.z_isinstance bt_isinstance (pa_cons (pv 8) (pa_cons (pe_ty T.z_tuple bt_tuple) pa_nil))))) (pw_or (pt_not (pt_val (pe_callB call_isinst (by rfl) T.z_isinstance bt_isinstance (pa_cons (pe_ix ix_tup (pv 8) pe_int (fun _ _ => rfl)) (pa_cons (pe_ty T.z_list bt_list) pa_nil))))) (pw_or1 (pt_cmpR (op_neD hr.units10) (pv 8) (pe_tupA (pa_cons (pv 3) (pa_cons (pv 4) (pa_cons (pv 5) pa_nil)))) (nomark _))))).pt (pss_one (ps_ret pe_bl)) pss_nil) (pss_cons (ps_if (pw_or (pt_not (pt_val (pe_fn F_law_right (hr.mono (by decide)) (by rfl) (pa_cons (pe_op op_add_str (pv 7) pe_str) pa_nil)))) (pw_or1 (pt_not (pt_val (pe_fn F_law_right (hr.mono (by decide)) (by rfl) (pa_cons (pe_fn F_law_altered (hr.mono (by decide)) (by rfl) (pa_cons (pv 2) (pa_cons (pv 7) (pa_cons pe_int pa_nil)))) pa_nil)))))).pt (pss_one (ps_ret pe_bl)) pss_nil) (pss_one (ps_if (pt_not (pt_val (pe_fn F_law_right (hr.mono (by decide)) (by rfl) (pa_cons (pe_fn F_law_words_moved (hr.mono (by decide)) (by rfl) (pa_cons (pv 2) (pa_cons (pv 7) pa_nil))) pa_nil)))) (pss_one (ps_ret pe_bl)) pss_nil)))))))),fun D H5 p l qs w_ y_ k z0 z1 z6 z7 z8 p5 hk L5 ⟨hl1,hl2⟩ hok hw hy nlp nx => ?_⟩
      have hw5 := word5 _ hw
      have hy5 := way5 _ hy
      have hok4 : ∀ r ∈ qs.map (·.2),(pairT r).length ≤ 249 := fun r hr => by
        obtain ⟨q,hq,rfl⟩ := List.mem_map.mp hr
        exact (hok q hq).2
      have hql : (qs.map (·.2)).length ≤ 200 := by rw [List.length_map]; exact hl2
      have hlen' := paper_len hok4 hql ⟨hw5,hy5⟩
      have okp : OkP w_ y_ (qs.map (·.2)) := ⟨hw,hy,by rw [List.length_map]; exact hl1,hql,fun r hr => by
        obtain ⟨q,hq,rfl⟩ := List.mem_map.mp hr
        exact (hok q hq).1⟩
      have hsp := split_paper (rs := qs.map (·.2)) hw hy
      have hJ := J_paper hok4 hql ⟨hw5,hy5⟩
      refine ⟨_,rfl,l,_,rfl,.inl (SqL.of L5.lst),fun h H7 s7 f7 n7 => ?_⟩
      have L7 := L5.mono s7
      have Lh : Prs H7 h qs := ⟨f7,L7.prs⟩
      refine ⟨_,rfl,_,rfl,_,rfl,w_,y_,h,qs,rfl,Lh,hl2,hok,⟨hw5,hy5⟩,fun H8 s8 => ?_⟩
      refine ⟨_,rfl,_,"str","str",rfl,.str _,nice_str,_,rfl,iteFalse (by decide) ?_⟩
      refine ⟨_,rfl,_,rfl,_,rfl,_,rfl,w_,y_,l,qs,rfl,L7.mono s8,hl2,hok,⟨hw5,hy5⟩,fun H9 s9 => ⟨rfl,_,rfl,iteFalse (by simp) ?_⟩⟩
      refine ⟨_,rfl,_,rfl,_,_,prs_rp9 ((Lh.mono s8).mono s9) rfl,prs_rp9 ((L7.mono s8).mono s9) rfl,_,rfl,iteFalse (by rw [deq_self]; rfl) ?_⟩
      refine ⟨_,rfl,_,rfl,by omega,.inl ⟨_,_,_,rfl,okp,fun t H11 s11 Pt => ?_⟩⟩
      have S7 : Same H7 H11 := s8.trans (s9.trans s11)
      obtain ⟨lt,qt,et,Lt,ert⟩ := Pt
      refine ⟨_,rfl,_,"tuple","tuple",rfl,.tup et,nice_tuple,_,rfl,iteFalse (by decide) ?_⟩
      refine ⟨_,rfl,t,_,_,_,rfl,rfl,SqT.of et,rfl,_,"list","list",rfl,.lst Lt.lst,nice_list,_,rfl,iteFalse (by decide) ?_⟩
      refine ⟨_,rfl,_,rfl,_,rfl,_,rfl,sz (by simp),fun tp H12 s12 f12 n12 => ?_⟩
      refine ⟨_,_,pap_rp (Pap.mono ⟨lt,qt,et,Lt,ert⟩ s12),pap_rp ⟨l,qs,f12,(L7.mono S7).mono s12,rfl⟩,_,rfl,iteFalse (by rw [deq_self]; rfl) ?_⟩
      have hb : (Str.ofString " 1/2:0").length = 6 := rfl
      refine ⟨_,rfl,_,_,rfl,rfl,line_sz (by omega),_,rfl,by rw [Str.length_append]; omega,fun H13 s13 => ⟨_,rfl,iteFalse (by decide) ?_⟩⟩
      have S5 : Same H5 H13 := s7.trans (S7.trans (s12.trans s13))
      have p13 := p5.same S5
      refine ⟨_,rfl,_,rfl,p,_,3,_,rfl,p13,by omega,by omega,⟨by decide,by decide⟩,fun x2 H14 hx2 b14 p14 => ?_⟩
      refine ⟨x2,rfl,by omega,fun H15 s15 => ⟨_,rfl,iteFalse (by decide) ?_⟩⟩
      refine ⟨_,rfl,_,rfl,p,_,_,rfl,p14.same s15,by omega,⟨by omega,?_,?_,?_,?_⟩,fun x3 H16 hx3 b16 p16 => ?_⟩
      · rw [hsp]; simp
      · rw [hsp]; simp; omega
      · rw [hsp]
        intro z hz
        rcases List.mem_cons.mp hz with rfl | hz
        · omega
        rcases List.mem_cons.mp hz with rfl | hz
        · omega
        · obtain ⟨r,hr,rfl⟩ := List.mem_map.mp hz
          have := hok4 r hr
          omega
      · rw [hsp]; exact hJ
      refine ⟨x3,rfl,by omega,fun H17 s17 => ⟨_,rfl,iteFalse (by decide) ?_⟩⟩
      exact nx _ _ _ _ ((But.of S5).trans (b14.trans ((But.of s15).trans (b16.trans (But.of s17)))))
    obtain ⟨u1,hu1,rd1⟩ := R1
    refine ⟨_,pss_cons (ps_for PassesOwn.never rfl (pi_list (pe_fn F_law_folded (hr.mono (by decide)) (by rfl) (pa_cons (pv 0) (pa_cons pe_int pa_nil)))) (pg_name (i := 1) S_law.nd rfl (Or.inl rfl)) (pss_cons (ps_set (i := 2) S_law.nd rfl (Or.inr rfl) (pe_fn F_law_begun (hr.mono (by decide)) (by rfl) (pa_cons (pv 1) pa_nil))) (pss_cons (ps_set (i := 3) S_law.nd rfl (Or.inl rfl) (pe_ix ix_list (pe_lstA (pa_cons pe_str (pa_cons pe_str pa_nil))) (pe_fn F_law_take (hr.mono (by decide)) (by rfl) (pa_cons (pv 2) (pa_cons pe_int pa_nil))) (fun _ _ => rfl))) (pss_cons (ps_set (i := 4) S_law.nd rfl (Or.inl rfl) (pe_ix ix_list (pe_lstA (pa_cons pe_str (pa_cons pe_str (pa_cons pe_str (pa_cons pe_str pa_nil))))) (pe_fn F_law_take (hr.mono (by decide)) (by rfl) (pa_cons (pv 2) (pa_cons pe_int pa_nil))) (fun _ _ => rfl))) (pss_cons (ps_setCompA (j := 5) rfl CN S_law.nd rfl rfl (pi_range1 rfl T.z_range (pa_cons (pe_op op_add pe_int (pe_fn F_law_take (hr.mono (by decide)) (by rfl) (pa_cons (pv 2) (pa_cons pe_int pa_nil)))) pa_nil)) (fun fp s₀ H₀ => (pe_tupA (pa_cons (pe_fn F_law_drawn (hr.mono (by decide)) (by rfl) (pa_cons (pv 1) pa_nil)) (pa_cons (pe_fn F_law_drawn (hr.mono (by decide)) (by rfl) (pa_cons (pv 1) pa_nil)) pa_nil))))) (pss_cons (ps_if (pt_cmpR op_eq (pe_fn F_law_take (hr.mono (by decide)) (by rfl) (pa_cons (pv 2) (pa_cons pe_int pa_nil))) pe_int (nomark _)) (pss_one (ps_set (i := 5) S_law.nd rfl (Or.inl rfl) (pe_op op_repA (pe_lstA (pa_cons (pe_ix ix_list (pv 5) pe_int (fun _ _ => rfl)) pa_nil)) (pe_op op_add pe_int (pe_fn F_law_take (hr.mono (by decide)) (by rfl) (pa_cons (pv 2) (pa_cons pe_int pa_nil))))))) pss_nil) hu1)))))) (pss_one (ps_ret pe_bl)),?_⟩
    refine ⟨_,rfl,sa,ss,rfl,hS,by omega,fun c zs H3 f3 s3 => ?_⟩
    refine ⟨c,rfl,⟨_,SqL.of f3⟩,for_list (K := K) (a := c) (xs := zs.map V.int) (fun i σ H4 => ∃ z1 z2 z3 z4 z5 z6 z7 z8,σ = [some (.ref sa),z1,z2,z3,z4,z5,z6,z7,z8] ∧ Same H3 H4)
      ⟨none,none,none,none,none,none,none,none,rfl,Same.refl _⟩ (fun i σ H4 _ ⟨_,_,_,_,_,_,_,_,_,s4⟩ => SqL.of (s4 _ _ f3)) ?_ ?_⟩
    · rintro i x σ H4 hx ⟨z1,z2,z3,z4,z5,z6,z7,z8,rfl,s4⟩
      obtain ⟨cc,rfl⟩ : ∃ cc,x = V.int cc := by
        obtain ⟨n,_,e⟩ := List.mem_map.mp (List.mem_of_getElem? hx)
        exact ⟨n,e.symm⟩
      refine ⟨_,rfl,cc,rfl,fun p H5 s5 n5 p5 => ?_⟩
      refine ⟨sz (by simp),fun lm H6 s6 f6 n6 => ?_⟩
      refine ⟨_,rfl,p,_,_,rfl,p5.same s6,by decide,⟨by decide,by decide⟩,fun r7 H7 a7 b7' b7 p7 => ?_⟩
      refine menu (b7 _ _ (Pot.ne p5 n6) f6) a7 (by simpa using b7') fun v hv => ?_
      obtain ⟨w_,rfl,hw⟩ : ∃ w_ : Str,v = .str w_ ∧ w_ ∈ wordsL := by
        simp only [List.mem_cons,List.not_mem_nil,or_false] at hv
        rcases hv with rfl | rfl <;> exact ⟨_,rfl,by decide⟩
      refine ⟨sz (by simp),fun lm2 H8 s8 f8 n8 => ?_⟩
      refine ⟨_,rfl,p,_,_,rfl,p7.same s8,by decide,⟨by decide,by decide⟩,fun r9 H9 a9 b9' b9 p9 => ?_⟩
      refine menu (b9 _ _ (Pot.ne p7 n8) f8) a9 (by simpa using b9') fun v hv => ?_
      obtain ⟨y_,rfl,hy⟩ : ∃ y_ : Str,v = .str y_ ∧ y_ ∈ waysL := by
        simp only [List.mem_cons,List.not_mem_nil,or_false] at hv
        rcases hv with rfl | rfl | rfl | rfl <;> exact ⟨_,rfl,by decide⟩
      refine ⟨_,rfl,p,_,_,rfl,p9,by decide,⟨by decide,by decide⟩,fun r10 H10 a10 b10' b10 p10 => ?_⟩
      have B10 : But p H5 H10 := (But.of s6).trans (b7.trans ((But.of s8).trans (b9.trans b10)))
      refine ⟨_,_,rfl,rfl,_,rfl,by omega,by omega,fun r nr => ?_⟩
      have npr := Pot.ne p10 nr
      refine comp_range (n := (1 + r10).toNat) (lo := 0) (l := r) (fv := [("pot",2)]) (fun i acc H5 => ∃ qs : List (V × R4),i ≤ (1 + r10).toNat ∧ acc = qs.map (·.1) ∧ qs.length = i ∧ (∀ q ∈ qs,PrT H5 q.1 q.2 ∧ Ok4 q.2) ∧ But p H10 H5 ∧ Pot H5 p (10 + 50 * (i : Int)) ∧ H5 r = some (.lst acc))
        ⟨[],Nat.zero_le _,rfl,rfl,(fun z h => nomatch h),But.of (Same.new nr),(p10.same (Same.new nr)).mono (by omega),upd_same⟩ ?_ ?_ ?_
      · rintro i acc H11 hi ⟨qs,hi',rfl,hl,_,b11,_,e11⟩
        exact ⟨e11,small1000 (by rw [List.length_map]; omega)⟩
      · rintro i acc H11 Kc hi ⟨qs,hi',rfl,hl,h1,b11,p11,e11⟩ kk
        refine ⟨_,rfl,p,_,rfl,p11,by omega,fun t1 x1 y1 H12 lo1 hx1 hy1 e12 b12 p12 => ?_⟩
        refine ⟨_,rfl,p,_,rfl,p12,by omega,fun t2 x2 y2 H13 lo2 hx2 hy2 e13 b13 p13 => ?_⟩
        refine ⟨sz (by simp),fun t H14 s14 f14 n14 => ?_⟩
        have e14 := s14 _ _ (b13 _ _ npr (b12 _ _ npr e11))
        have u14 : Upd H14 (L2.upd H14 r (.lst (qs.map (·.1) ++ [.ref t]))) r (qs.map (·.1)) (qs.map (·.1) ++ [.ref t]) := Upd.mk' e14
        have t13 : SameT H12 H14 := fun b zs e => s14 _ _ (b13.t p12 b zs e)
        have t12 : SameT H11 H14 := fun b zs e => t13 b zs (b12.t p11 b zs e)
        refine kk (.ref t) H14 e14 ⟨qs ++ [(.ref t,((x1,y1),(x2,y2)))],hi,by rw [List.map_append]; rfl,by simp [hl],fun q hq => ?_,fun b o nb e => ?_,?_,upd_same⟩
        · rcases List.mem_append.mp hq with hq | hq
          · exact ⟨((h1 q hq).1.t t12).t u14.t,(h1 q hq).2⟩
          · rw [List.mem_singleton.mp hq]
            exact ⟨PrT.t ⟨t,t1,t2,rfl,f14,t13 _ _ e12,s14 _ _ e13⟩ u14.t,ok4_of lo1 lo2 hx1 hy1 hx2 hy2⟩
        · by_cases hbr : b = r
          · subst hbr
            rw [nr] at e
            cases e
          · rw [upd_ne hbr]
            exact s14 _ _ (b13 b o nb (b12 b o nb (b11 b o nb e)))
        · exact pot_upd u14 ((p13.same s14).mono (by omega)) npr
      rintro acc H11 ⟨qs,hi',rfl,hl,h1,b11,p11,e11⟩
      have B11 := B10.trans b11
      have L11 : Prs H11 r qs := ⟨e11,fun q hq => (h1 q hq).1⟩
      have fi : ∀ (H' : Hp),But p H5 H' → Same H3 H' := fun H' b => s4.trans (b.same s5 n5)
      refine ⟨_,rfl,p,_,_,rfl,p11,by omega,⟨by decide,by decide⟩,fun r12 H12 a12 b12' b12 p12 => ⟨rfl,_,rfl,ite3 (fun c1 => ?_) (fun c1 => ?_)⟩⟩
      · have e12 := b12 _ _ npr e11
        obtain ⟨q0,hq0⟩ : ∃ q0,qs[0]? = some q0 := ⟨qs[0]'(by omega),List.getElem?_eq_getElem (by omega)⟩
        have hm0 := List.mem_of_getElem? hq0
        refine ⟨_,rfl,r,_,_,_,rfl,rfl,SqL.of e12,atI_nat (j := 0) (v := q0.1) (by rw [List.getElem?_map,hq0]; rfl),sz (by simp),fun l13 H13 s13 f13 n13 => ?_⟩
        refine ⟨_,rfl,p,_,_,rfl,p12.same s13,by omega,⟨by decide,by decide⟩,fun r14 H14 a14 b14' b14 p14 => ?_⟩
        have nl13 := Pot.ne p12 n13
        refine ⟨_,_,rfl,rfl,l13,_,_,rfl,rfl,b14 _ _ nl13 f13,by omega,by omega,sz (by simp; omega),fun l15 H15 s15 f15 n15 => ?_⟩
        have t15 : SameT H11 H15 := fun b zs e => s15 _ _ (b14.t (p12.same s13) b zs (s13 _ _ (b12.t p11 b zs e)))
        refine rd1 _ H15 p l15 (List.replicate (199 + r14).toNat q0) w_ y_ _ _ _ _ _ _ (p14.same s15) (by omega) (rep_prs f15 ((h1 q0 hm0).1.t t15)) (by rw [List.length_replicate]; omega) (fun q hq => by rw [(List.mem_replicate.mp hq).2]; exact (h1 q0 hm0).2) hw hy (Pot.ne p14 n15) fun z6 z7 z8 H16 b16 => ?_
        exact ⟨_,_,_,_,_,_,_,_,rfl,fi _ (B11.trans (b12.trans ((But.of s13).trans (b14.trans ((But.of s15).trans b16)))))⟩
      · refine rd1 _ H12 p r qs w_ y_ _ _ _ _ _ _ p12 (by omega) ⟨b12 _ _ npr e11,fun q hq => (h1 q hq).1.t (b12.t p11)⟩ (by omega) (fun q hq => (h1 q hq).2) hw hy npr fun z6 z7 z8 H16 b16 => ?_
        exact ⟨_,_,_,_,_,_,_,_,rfl,fi _ (B11.trans (b12.trans b16))⟩
    · rintro σ H4 ⟨z1,z2,z3,z4,z5,z6,z7,z8,rfl,s4⟩
      exact fin _
end
def hNames0 : List (Str × Nat) := [(Str.ofString "is_whole",10),(Str.ofString "common_divisor",11),(Str.ofString "is_ratio",12),(Str.ofString "show_ratio",19),(Str.ofString "show_pair",20),(Str.ofString "show_paper",21),(Str.ofString "read_whole",22),(Str.ofString "read_ratio",23),(Str.ofString "two_parts",24),(Str.ofString "read_pair",25),(Str.ofString "read_paper",26),(Str.ofString "_law_folded",28),(Str.ofString "_law_begun",29),(Str.ofString "_law_take",30),(Str.ofString "_law_wide",31),(Str.ofString "_law_divisor",32),(Str.ofString "_law_ratio",33),(Str.ofString "_law_below",34),(Str.ofString "_law_whole_in",35),(Str.ofString "_law_fraction",36),(Str.ofString "_law_shown",37),(Str.ofString "_law_altered",38),(Str.ofString "_law_drawn",39),(Str.ofString "_law_pair_in",40),(Str.ofString "_law_paper_in",41),(Str.ofString "_law_paper_text",42),(Str.ofString "_law_told_of",43),(Str.ofString "_law_right",44),(Str.ofString "_law_words_moved",45),(Str.ofString "law",46)]
def hNamesD : List (Str × Nat × List V) := []
def hExc : List Str := [Str.ofString "NoRatio",Str.ofString "NoLine",Str.ofString "NoPlace",Str.ofString "NoWay",Str.ofString "NoWalk",Str.ofString "NoFence",Str.ofString "NoText",Str.ofString "LeashError"]
def hNo : List Str := [Str.ofString "ValueError",Str.ofString "abs",Str.ofString "all",Str.ofString "bool",Str.ofString "enumerate",Str.ofString "int",Str.ofString "isinstance",Str.ofString "len",Str.ofString "list",Str.ofString "max",Str.ofString "min",Str.ofString "range",Str.ofString "reversed",Str.ofString "str",Str.ofString "tuple"]
def hTup : List (Str × List V) := [(Str.ofString "WAYS",[.str "on",.str "part",.str "free",.str "hops"]),(Str.ofString "PAPERS",[.str "walk",.str "fence"])]
def hEq0 (K : PySem.W.Frag) : List (Option (Option Value)) := [PySem.W.nsIn K cStatics "sys.int_max_str_digits",PySem.W.findIn K (.ref (Hd.cls K "NoText")) "__getattribute__",PySem.W.findIn K (.ref (Hd.cls K "NoText")) "__getattr__",PySem.W.findIn K (.ref (Hd.cls K "NoText")) "__class__"]
def hVal0 : List (Option (Option Value)) := [some none,some (some (.builtin "BaseException.__getattribute__")),some none,some (some (.builtin "object.__class__"))]
def hEq1 (K : PySem.W.Frag) : List (Option (Option V)) := [(PySem.W.nsIn K mainGlobals "FIGURES").map (fun o => o.map Hd.bareV),(PySem.W.nsIn K mainGlobals "MOST_FIGURES").map (fun o => o.map Hd.bareV),(PySem.W.nsIn K mainGlobals "MOST_PAIRS").map (fun o => o.map Hd.bareV)]
def hVal1 : List (Option (Option V)) := [some (some (.str (Str.ofString "0123456789"))),some (some (.int 1000)),some (some (.int 200))]
def hEq2 (K : PySem.W.Frag) : List (Option Bool) := [PySem.W.exmOne K (.ref (Hd.cls K "NoText")) (.ref (Hd.cls K "LeashError")),PySem.W.kitOne K (.ref (Hd.cls K "NoText")) (.ref (Hd.cls K "NoText")),PySem.W.kitOne K (.ref (Hd.cls K "NoText")) (.type "ValueError"),PySem.W.kitAny K (.ref (Hd.cls K "NoText")) [(.ref (Hd.cls K "NoFence")),(.ref (Hd.cls K "NoLine")),(.ref (Hd.cls K "NoPlace")),(.ref (Hd.cls K "NoRatio")),(.ref (Hd.cls K "NoWalk")),(.ref (Hd.cls K "NoWay"))]]
def hVal2 : List (Option Bool) := [some true,some true,some true,some false]
def hF0 (K : PySem.W.Frag) : List (Option (Arguments × List Stmt × Scope × Value)) := hNames0.map (fun p => Hd.fnFact K p.1)
def hG0 : List (Option (Arguments × List Stmt × Scope × Value)) := hNames0.map (fun p => some (defArgs (top p.2),defBody (top p.2),defScope (top p.2),.none))
def hF1 (K : PySem.W.Frag) : List (Option (Arguments × List Stmt × Scope × List V)) × Bool × Bool × List (Option (List V)) × List (Option (Option Value)) × List (Option (Option V)) × List (Option Bool) := (hNamesD.map (fun p => Hd.fnFactD K p.1),hExc.all (Hd.excFact K),hNo.all (Hd.noFact K),hTup.map (fun p => Hd.tupFact K p.1),hEq0 K,hEq1 K,hEq2 K)
def hG1 : List (Option (Arguments × List Stmt × Scope × List V)) × Bool × Bool × List (Option (List V)) × List (Option (Option Value)) × List (Option (Option V)) × List (Option Bool) := (hNamesD.map (fun p => some (defArgs (top p.2.1),defBody (top p.2.1),defScope (top p.2.1),p.2.2)),true,true,hTup.map (fun p => some p.2),hVal0,hVal1,hVal2)
def hFacts (K : PySem.W.Frag) : (List (Option (Arguments × List Stmt × Scope × Value))) × (List (Option (Arguments × List Stmt × Scope × List V)) × Bool × Bool × List (Option (List V)) × List (Option (Option Value)) × List (Option (Option V)) × List (Option Bool)) := (hF0 K,hF1 K)
def hGood : (List (Option (Arguments × List Stmt × Scope × Value))) × (List (Option (Arguments × List Stmt × Scope × List V)) × Bool × Bool × List (Option (List V)) × List (Option (Option Value)) × List (Option (Option V)) × List (Option Bool)) := (hG0,hG1)
def hView : Program := PySem.W.view PySem.Challenge.pw_oneleash_k59_papers_written_and_read [46]
def hLoose : List Str := [Str.ofString "LeashError",Str.ofString "NoRatio",Str.ofString "NoLine",Str.ofString "NoPlace",Str.ofString "NoWay",Str.ofString "NoWalk",Str.ofString "NoFence",Str.ofString "NoText",Str.ofString "is_whole",Str.ofString "common_divisor",Str.ofString "is_ratio",Str.ofString "WAYS",Str.ofString "MOST_FIGURES",Str.ofString "MOST_PAIRS",Str.ofString "FIGURES",Str.ofString "PAPERS",Str.ofString "show_ratio",Str.ofString "show_pair",Str.ofString "show_paper",Str.ofString "read_whole",Str.ofString "read_ratio",Str.ofString "two_parts",Str.ofString "read_pair",Str.ofString "read_paper",Str.ofString "_law_folded",Str.ofString "_law_begun",Str.ofString "_law_take",Str.ofString "_law_wide",Str.ofString "_law_divisor",Str.ofString "_law_ratio",Str.ofString "_law_below",Str.ofString "_law_whole_in",Str.ofString "_law_fraction",Str.ofString "_law_shown",Str.ofString "_law_altered",Str.ofString "_law_drawn",Str.ofString "_law_pair_in",Str.ofString "_law_paper_in",Str.ofString "_law_paper_text",Str.ofString "_law_told_of",Str.ofString "_law_right",Str.ofString "_law_words_moved"]
noncomputable def hRunS (w : World) := (PySem.W.openEnds treeTable PySem.Challenge.pw_oneleash_k59_papers_written_and_read w 100000).map (fun s => (PySem.W.openSeen hView hLoose (importedModules PySem.Challenge.pw_oneleash_k59_papers_written_and_read.main.body) (fun _ => true) true s,hF0 (Hd.frag s.heap),hF1 (Hd.frag s.heap)))
noncomputable def hEndS := some (PySem.W.openGood hView hLoose,hG0,hG1)
theorem hRunS_self : @hRunS = @hRunS := rfl
theorem hEndS_self : @hEndS = @hEndS := rfl
set_option maxHeartbeats 0 in
lay_quick K59.hRunS K59.hEndS
name_quick hRunSQ for K59.hRunS by K59.hRunS_self
name_quick hEndSQ for K59.hEndS by K59.hEndS_self
set_option maxHeartbeats 0 in
theorem hQuickS (w : World) : PySem.W.Fast.hRunSQ w = PySem.W.Fast.hEndSQ := by kernel_rfl
theorem hOneS (w : World) : hRunS w = hEndS := (congrFun PySem.W.Fast.hRunSQ_eq w).trans ((hQuickS w).trans PySem.W.Fast.hEndSQ_eq.symm)
theorem hAll (w : World) : (PySem.W.openEnds treeTable PySem.Challenge.pw_oneleash_k59_papers_written_and_read w 100000).map (fun s => (PySem.W.openSeen hView hLoose (importedModules PySem.Challenge.pw_oneleash_k59_papers_written_and_read.main.body) (fun _ => true) true s,hFacts (Hd.frag s.heap))) = some (PySem.W.openGood hView hLoose,hGood) := by
  have rS : (PySem.W.openEnds treeTable PySem.Challenge.pw_oneleash_k59_papers_written_and_read w 100000).map (fun s => (PySem.W.openSeen hView hLoose (importedModules PySem.Challenge.pw_oneleash_k59_papers_written_and_read.main.body) (fun _ => true) true s,hF0 (Hd.frag s.heap),hF1 (Hd.frag s.heap))) = some (PySem.W.openGood hView hLoose,hG0,hG1) := hOneS w
  skip
  generalize (PySem.W.openEnds treeTable PySem.Challenge.pw_oneleash_k59_papers_written_and_read w 100000) = x at *
  cases x with
  | none => cases rS
  | some s =>
    have qS := Option.some.inj rS
    show some (PySem.W.openSeen hView hLoose (importedModules PySem.Challenge.pw_oneleash_k59_papers_written_and_read.main.body) (fun _ => true) true s,hFacts (Hd.frag s.heap)) = _
    unfold hFacts hGood
    have z := congrArg Prod.fst qS
    have q0 := (congrArg Prod.fst (congrArg Prod.snd qS))
    have q1 := (congrArg Prod.snd (congrArg Prod.snd qS))
    exact congrArg some (Hd.pair2 z (Hd.pair2 q0 q1))
theorem hLeft : PySem.W.LeftO PySem.Challenge.rw_oneleash_k59_papers_written_and_read.prog hView hLoose (fun _ => true) (PySem.W.Hook.obs (Hd.hook hFacts hGood)) (PySem.W.Hook.val (Hd.hook hFacts hGood)) 100000 := hAll
theorem all_of {P : Program} {w : World} {K : PySem.W.Frag} (FK : hFacts K = hGood) {h : Heap} {mg : Str → Option Value} {fa : Addr} (X : K.In h) (G : h.Ns mainGlobals mg) (hfa : mg "law" = some (.ref fa)) :
    ∃ fd : FuncData,(∀ (s : Shared) (v : Value),BindsTo s fd ⟨[v],[]⟩ [("script",v)]) ∧ ∀ base : Heap,K.In base → base.Ns mainGlobals mg → FnOk P w K mg base CX0 8 fa fd ["script"] (spLaw K) := by
  have H0 : (hNames0.map (fun p => Hd.fnFact K p.1) : List (Option (Arguments × List Stmt × Scope × Value))) = hNames0.map (fun p => some (defArgs (top p.2),defBody (top p.2),defScope (top p.2),.none)) := (congrArg Prod.fst FK)
  have H1 : (hNamesD.map (fun p => Hd.fnFactD K p.1) : List (Option (Arguments × List Stmt × Scope × List V))) = hNamesD.map (fun p => some (defArgs (top p.2.1),defBody (top p.2.1),defScope (top p.2.1),p.2.2)) := (congrArg Prod.fst (congrArg Prod.snd FK))
  have H2 : (hExc.all (Hd.excFact K) : Bool) = true := (congrArg Prod.fst (congrArg Prod.snd (congrArg Prod.snd FK)))
  have H3 : (hNo.all (Hd.noFact K) : Bool) = true := (congrArg Prod.fst (congrArg Prod.snd (congrArg Prod.snd (congrArg Prod.snd FK))))
  have H4 : (hTup.map (fun p => Hd.tupFact K p.1) : List (Option (List V))) = hTup.map (fun p => some p.2) := (congrArg Prod.fst (congrArg Prod.snd (congrArg Prod.snd (congrArg Prod.snd (congrArg Prod.snd FK)))))
  have H5 : (hEq0 K : List (Option (Option Value))) = hVal0 := (congrArg Prod.fst (congrArg Prod.snd (congrArg Prod.snd (congrArg Prod.snd (congrArg Prod.snd (congrArg Prod.snd FK))))))
  have H6 : (hEq1 K : List (Option (Option V))) = hVal1 := (congrArg Prod.fst (congrArg Prod.snd (congrArg Prod.snd (congrArg Prod.snd (congrArg Prod.snd (congrArg Prod.snd (congrArg Prod.snd FK)))))))
  have H7 : (hEq2 K : List (Option Bool)) = hVal2 := (congrArg Prod.snd (congrArg Prod.snd (congrArg Prod.snd (congrArg Prod.snd (congrArg Prod.snd (congrArg Prod.snd (congrArg Prod.snd FK)))))))
  have D_is_whole : Df K mg "is_whole" (top 10) := Hd.df_of X G (Hd.at_map H0 0 rfl)
  have D_common_divisor : Df K mg "common_divisor" (top 11) := Hd.df_of X G (Hd.at_map H0 1 rfl)
  have D_is_ratio : Df K mg "is_ratio" (top 12) := Hd.df_of X G (Hd.at_map H0 2 rfl)
  have D_show_ratio : Df K mg "show_ratio" (top 19) := Hd.df_of X G (Hd.at_map H0 3 rfl)
  have D_show_pair : Df K mg "show_pair" (top 20) := Hd.df_of X G (Hd.at_map H0 4 rfl)
  have D_show_paper : Df K mg "show_paper" (top 21) := Hd.df_of X G (Hd.at_map H0 5 rfl)
  have D_read_whole : Df K mg "read_whole" (top 22) := Hd.df_of X G (Hd.at_map H0 6 rfl)
  have D_read_ratio : Df K mg "read_ratio" (top 23) := Hd.df_of X G (Hd.at_map H0 7 rfl)
  have D_two_parts : Df K mg "two_parts" (top 24) := Hd.df_of X G (Hd.at_map H0 8 rfl)
  have D_read_pair : Df K mg "read_pair" (top 25) := Hd.df_of X G (Hd.at_map H0 9 rfl)
  have D_read_paper : Df K mg "read_paper" (top 26) := Hd.df_of X G (Hd.at_map H0 10 rfl)
  have D_law_folded : Df K mg "_law_folded" (top 28) := Hd.df_of X G (Hd.at_map H0 11 rfl)
  have D_law_begun : Df K mg "_law_begun" (top 29) := Hd.df_of X G (Hd.at_map H0 12 rfl)
  have D_law_take : Df K mg "_law_take" (top 30) := Hd.df_of X G (Hd.at_map H0 13 rfl)
  have D_law_wide : Df K mg "_law_wide" (top 31) := Hd.df_of X G (Hd.at_map H0 14 rfl)
  have D_law_divisor : Df K mg "_law_divisor" (top 32) := Hd.df_of X G (Hd.at_map H0 15 rfl)
  have D_law_ratio : Df K mg "_law_ratio" (top 33) := Hd.df_of X G (Hd.at_map H0 16 rfl)
  have D_law_below : Df K mg "_law_below" (top 34) := Hd.df_of X G (Hd.at_map H0 17 rfl)
  have D_law_whole_in : Df K mg "_law_whole_in" (top 35) := Hd.df_of X G (Hd.at_map H0 18 rfl)
  have D_law_fraction : Df K mg "_law_fraction" (top 36) := Hd.df_of X G (Hd.at_map H0 19 rfl)
  have D_law_shown : Df K mg "_law_shown" (top 37) := Hd.df_of X G (Hd.at_map H0 20 rfl)
  have D_law_altered : Df K mg "_law_altered" (top 38) := Hd.df_of X G (Hd.at_map H0 21 rfl)
  have D_law_drawn : Df K mg "_law_drawn" (top 39) := Hd.df_of X G (Hd.at_map H0 22 rfl)
  have D_law_pair_in : Df K mg "_law_pair_in" (top 40) := Hd.df_of X G (Hd.at_map H0 23 rfl)
  have D_law_paper_in : Df K mg "_law_paper_in" (top 41) := Hd.df_of X G (Hd.at_map H0 24 rfl)
  have D_law_paper_text : Df K mg "_law_paper_text" (top 42) := Hd.df_of X G (Hd.at_map H0 25 rfl)
  have D_law_told_of : Df K mg "_law_told_of" (top 43) := Hd.df_of X G (Hd.at_map H0 26 rfl)
  have D_law_right : Df K mg "_law_right" (top 44) := Hd.df_of X G (Hd.at_map H0 27 rfl)
  have D_law_words_moved : Df K mg "_law_words_moved" (top 45) := Hd.df_of X G (Hd.at_map H0 28 rfl)
  have D_law : Df K mg "law" (top 46) := Hd.df_of X G (Hd.at_map H0 29 rfl)
  have O_NoRatio : ExcC K mg "NoRatio" (Hd.cls K "NoRatio") := Hd.exc_of X G (Hd.at_all H2 0 rfl)
  have O_NoLine : ExcC K mg "NoLine" (Hd.cls K "NoLine") := Hd.exc_of X G (Hd.at_all H2 1 rfl)
  have O_NoPlace : ExcC K mg "NoPlace" (Hd.cls K "NoPlace") := Hd.exc_of X G (Hd.at_all H2 2 rfl)
  have O_NoWay : ExcC K mg "NoWay" (Hd.cls K "NoWay") := Hd.exc_of X G (Hd.at_all H2 3 rfl)
  have O_NoWalk : ExcC K mg "NoWalk" (Hd.cls K "NoWalk") := Hd.exc_of X G (Hd.at_all H2 4 rfl)
  have O_NoFence : ExcC K mg "NoFence" (Hd.cls K "NoFence") := Hd.exc_of X G (Hd.at_all H2 5 rfl)
  have O_NoText : ExcC K mg "NoText" (Hd.cls K "NoText") := Hd.exc_of X G (Hd.at_all H2 6 rfl)
  have O_LeashError : ExcC K mg "LeashError" (Hd.cls K "LeashError") := Hd.exc_of X G (Hd.at_all H2 7 rfl)
  have T : Txt mg := ⟨PySem.W.mg_none_of X G (Hd.no_of (Hd.at_all H3 0 rfl)),PySem.W.mg_none_of X G (Hd.no_of (Hd.at_all H3 1 rfl)),PySem.W.mg_none_of X G (Hd.no_of (Hd.at_all H3 2 rfl)),PySem.W.mg_none_of X G (Hd.no_of (Hd.at_all H3 3 rfl)),PySem.W.mg_none_of X G (Hd.no_of (Hd.at_all H3 4 rfl)),PySem.W.mg_none_of X G (Hd.no_of (Hd.at_all H3 5 rfl)),PySem.W.mg_none_of X G (Hd.no_of (Hd.at_all H3 6 rfl)),PySem.W.mg_none_of X G (Hd.no_of (Hd.at_all H3 7 rfl)),PySem.W.mg_none_of X G (Hd.no_of (Hd.at_all H3 8 rfl)),PySem.W.mg_none_of X G (Hd.no_of (Hd.at_all H3 9 rfl)),PySem.W.mg_none_of X G (Hd.no_of (Hd.at_all H3 10 rfl)),PySem.W.mg_none_of X G (Hd.no_of (Hd.at_all H3 11 rfl)),PySem.W.mg_none_of X G (Hd.no_of (Hd.at_all H3 12 rfl)),PySem.W.mg_none_of X G (Hd.no_of (Hd.at_all H3 13 rfl)),PySem.W.mg_none_of X G (Hd.no_of (Hd.at_all H3 14 rfl))⟩
  obtain ⟨p_WAYS,od_WAYS,its_WAYS,n_WAYS,sl_WAYS,v_WAYS,w_WAYS,u_WAYS⟩ := Hd.tup_of (Hd.at_map H4 0 rfl)
  obtain ⟨p_PAPERS,od_PAPERS,its_PAPERS,n_PAPERS,sl_PAPERS,v_PAPERS,w_PAPERS,u_PAPERS⟩ := Hd.tup_of (Hd.at_map H4 1 rfl)
  have DG : PySem.W.nsIn K cStatics "sys.int_max_str_digits" = some none := Hd.at_two H5 0 rfl rfl
  have fa_NoText : PySem.W.findIn K (.ref (Hd.cls K "NoText")) "__getattribute__" = some (some (.builtin "BaseException.__getattribute__")) := Hd.at_two H5 1 rfl rfl
  have fb_NoText : PySem.W.findIn K (.ref (Hd.cls K "NoText")) "__getattr__" = some none := Hd.at_two H5 2 rfl rfl
  have fc_NoText : PySem.W.findIn K (.ref (Hd.cls K "NoText")) "__class__" = some (some (.builtin "object.__class__")) := Hd.at_two H5 3 rfl rfl
  have c_FIGURES : (PySem.W.nsIn K mainGlobals "FIGURES").map (fun o => o.map Hd.bareV) = some (some (.str (Str.ofString "0123456789"))) := Hd.at_two H6 0 rfl rfl
  have c_MOST_FIGURES : (PySem.W.nsIn K mainGlobals "MOST_FIGURES").map (fun o => o.map Hd.bareV) = some (some (.int 1000)) := Hd.at_two H6 1 rfl rfl
  have c_MOST_PAIRS : (PySem.W.nsIn K mainGlobals "MOST_PAIRS").map (fun o => o.map Hd.bareV) = some (some (.int 200)) := Hd.at_two H6 2 rfl rfl
  have m_NoText : PySem.W.exmOne K (.ref (Hd.cls K "NoText")) (.ref (Hd.cls K "LeashError")) = some true := Hd.at_two H7 0 rfl rfl
  have i_1 : PySem.W.kitOne K (.ref (Hd.cls K "NoText")) (.ref (Hd.cls K "NoText")) = some true := Hd.at_two H7 1 rfl rfl
  have i_v : PySem.W.kitOne K (.ref (Hd.cls K "NoText")) (.type "ValueError") = some true := Hd.at_two H7 2 rfl rfl
  have i_2 : PySem.W.kitAny K (.ref (Hd.cls K "NoText")) [(.ref (Hd.cls K "NoFence")),(.ref (Hd.cls K "NoLine")),(.ref (Hd.cls K "NoPlace")),(.ref (Hd.cls K "NoRatio")),(.ref (Hd.cls K "NoWalk")),(.ref (Hd.cls K "NoWay"))] = some false := Hd.at_two H7 3 rfl rfl
  refine law_fd h hfa fun base => ?_
  have hW : ∀ H,SqT K H p_WAYS (waysL.map V.str) := fun H => SqT.mod w_WAYS rfl (Hd.vals_sz u_WAYS (by decide)) u_WAYS
  have hP : ∀ H,SqT K H p_PAPERS (wordsL.map V.str) := fun H => SqT.mod w_PAPERS rfl (Hd.vals_sz u_PAPERS (by decide)) u_PAPERS
  have F_is_whole := fn_is_whole (P := P) (w := w) (base := base) D_is_whole T
  have F_common_divisor := fn_common_divisor (P := P) (w := w) (base := base) D_common_divisor T
  have F_is_ratio := fn_is_ratio (P := P) (w := w) (base := base) D_is_ratio F_is_whole F_common_divisor T
  have F_show_ratio := fn_show_ratio (P := P) (w := w) (base := base) D_show_ratio DG T
  have F_read_whole := fn_read_whole (P := P) (w := w) (base := base) D_read_whole O_NoText DG (Hd.str_of X G c_FIGURES) (Hd.int_of X G c_MOST_FIGURES) T
  have F_law_begun := fn_law_begun (P := P) (w := w) (base := base) D_law_begun T
  have F_law_take := fn_law_take (P := P) (w := w) (base := base) D_law_take
  have F_law_wide := fn_law_wide (P := P) (w := w) (base := base) D_law_wide F_law_take T
  have F_law_divisor := fn_law_divisor (P := P) (w := w) (base := base) D_law_divisor T
  have F_law_ratio := fn_law_ratio (P := P) (w := w) (base := base) D_law_ratio F_law_divisor
  have F_law_shown := fn_law_shown (P := P) (w := w) (base := base) D_law_shown DG T
  have F_law_drawn := fn_law_drawn (P := P) (w := w) (base := base) D_law_drawn F_law_take F_law_wide F_law_ratio T
  have F_read_ratio := fn_read_ratio (P := P) (w := w) (base := base) D_read_ratio O_NoText F_is_ratio F_show_ratio F_read_whole T
  have F_law_whole_in := fn_law_whole_in (P := P) (w := w) (base := base) D_law_whole_in DG T
  have F_law_fraction := fn_law_fraction (P := P) (w := w) (base := base) D_law_fraction F_law_whole_in F_law_divisor T
  have F_two_parts := fn_two_parts (P := P) (w := w) (base := base) D_two_parts O_NoText T
  have F_show_pair := fn_show_pair (P := P) (w := w) (base := base) D_show_pair DG F_show_ratio
  have F_read_pair := fn_read_pair (P := P) (w := w) (base := base) D_read_pair F_two_parts F_read_ratio
  have F_show_paper := fn_show_paper (P := P) (w := w) (base := base) D_show_paper F_show_pair
  have F_law_paper_text := fn_law_paper_text (P := P) (w := w) (base := base) D_law_paper_text F_law_shown
  have F_read_paper := fn_read_paper (P := P) (w := w) (base := base) D_read_paper O_NoText (Hd.int_of X G c_MOST_PAIRS) (PySem.W.mg_of X G v_WAYS) hW (PySem.W.mg_of X G v_PAPERS) hP F_read_pair T
  have F_law_pair_in := fn_law_pair_in (P := P) (w := w) (base := base) D_law_pair_in F_law_fraction
  have F_law_told_of := fn_law_told_of (P := P) (w := w) (base := base) D_law_told_of O_LeashError O_NoText O_NoFence O_NoLine O_NoPlace O_NoRatio O_NoWalk O_NoWay m_NoText ⟨fa_NoText,fb_NoText,fc_NoText⟩ i_1 i_v i_2 F_read_paper T
  have F_law_paper_in := fn_law_paper_in (P := P) (w := w) (base := base) D_law_paper_in F_law_pair_in T
  have F_law_right := fn_law_right (P := P) (w := w) (base := base) D_law_right F_law_paper_in F_law_told_of T
  have F_law_folded := fn_law_folded (P := P) (w := w) (base := base) D_law_folded T
  have F_law_altered := fn_law_altered (P := P) (w := w) (base := base) D_law_altered F_law_take T
  have F_law_words_moved := fn_law_words_moved (P := P) (w := w) (base := base) D_law_words_moved F_law_take T
  exact fn_law D_law F_law_folded F_law_begun F_law_drawn F_show_paper F_law_paper_text F_law_right F_read_paper F_law_altered F_law_words_moved F_law_take T
end K59
end
open PySem PySem.W PyProof.Rows
set_option maxRecDepth 100000 in
set_option maxHeartbeats 0 in
theorem PySem.Challenge.cw_oneleash_k59_papers_written_and_read_holds : PySem.Challenge.rw_oneleash_k59_papers_written_and_read.Holds := by
  w_on; o_law
  refine holds_open (q := K59.hView) (loose := K59.hLoose) (Xt := fun _ => true) (XP := fun _ _ => True) (Yf := Hook.obs (Hd.hook K59.hFacts K59.hGood)) (Ya := Hook.val (Hd.hook K59.hFacts K59.hGood)) (YP := Hook.says (Hd.hook K59.hFacts K59.hGood)) (N := 100000) K59.hLeft (Hook.of _) (Hook.keeps _) (fun _ _ => trivial) (fun _ _ _ _ _ => trivial) (by rfl) (by rfl) (by rfl) (fun _ _ => recFacts_nil rfl) (by rfl) (by first | assumption | decide +kernel) (by decide +kernel) ⟨rfl,rfl,rfl,rfl,rfl,by decide +kernel⟩ ?hw ?hc
  case hw => w_witness2
  exact Hd.law_walk (l := PySem.Challenge.rw_oneleash_k59_papers_written_and_read) (k := 8) ⟨rfl,by decide,by decide⟩ rfl rfl fun K FK w mg fa h KX G hmg => K59.all_of FK KX G hmg
