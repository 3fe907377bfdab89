import PyProof.Rows.All
import Wide.All
import OpenK.AllK
import Wide.FinOn
import Lean
import PyProof.EqAt
import PyProof.EqKinds
import PyProof.TupleCall
import PyProof.ExcArgsOwn
import KE.KTryMore
import PyProof.NsDelKeeps
import PyProof.ConsumeWalk
import PyProof.ZipIter
import PyProof.WalksEnum
import PyProof.EnumMake
import PyProof.NeKinds
import PyProof.CompMap
import KE.KRevIter
import PyProof.ListRange
import KE.KIntText
import PyProof.StrWalks
import PySem.Challenge.RW_oneleash_k60_walks_judged
section
set_option Elab.async false
set_option linter.all false
set_option maxRecDepth 100000
namespace L2
open PySem PySem.Spec PyProof.Rows
abbrev Key := Sum Int Str
def keyIs : Key → Value → Bool
  | .inl k,v => Value.isInt k v
  | .inr x,v => Value.isStrOf x v
def keyH (w : World) : Key → Int
  | .inl k => hashInt k
  | .inr x => hashStr w x
theorem keyIs_shape : ∀ {k : Key} {v : Value},keyIs k v = true → (∃ i t,k = Sum.inl i ∧ v = Value.int i t) ∨ (∃ x t,k = Sum.inr x ∧ v = Value.str x t)
  | .inl i,v,h => by
    obtain ⟨t,e⟩ := Value.isInt_shape (k := i) (v := v) h
    exact .inl ⟨i,t,rfl,e⟩
  | .inr x,v,h => by
    obtain ⟨t,e⟩ := Value.isStrOf_shape (x := x) (v := v) h
    exact .inr ⟨x,t,rfl,e⟩
theorem key_ll (a b : Int) : decide ((Sum.inl a : Key) = Sum.inl b) = (a == b) := by
  by_cases e : a = b
  · subst e; simp
  · have h : ¬ (Sum.inl a : Key) = Sum.inl b := fun q => e (Sum.inl.inj q)
    rw [decide_eq_false h]
    exact (beq_eq_false_iff_ne.mpr e).symm
theorem key_rr (a b : Str) : decide ((Sum.inr a : Key) = Sum.inr b) = decide (a = b) := by
  by_cases e : a = b
  · subst e; simp
  · have h : ¬ (Sum.inr a : Key) = Sum.inr b := fun q => e (Sum.inr.inj q)
    rw [decide_eq_false h,decide_eq_false e]
theorem key_lr (a : Int) (b : Str) : decide ((Sum.inl a : Key) = Sum.inr b) = false := decide_eq_false (fun q => nomatch q)
theorem key_rl (a : Str) (b : Int) : decide ((Sum.inr a : Key) = Sum.inl b) = false := decide_eq_false (fun q => nomatch q)
def mixKind (prog : Program) (w : World) : PySem.KeyKind prog w Key where
  is := keyIs
  hash := keyH w
  inj := fun v a b ha hb => by
    rcases keyIs_shape ha with ⟨i,t,rfl,rfl⟩ | ⟨x,t,rfl,rfl⟩
    · rcases keyIs_shape hb with ⟨j,u,rfl,e⟩ | ⟨y,u,rfl,e⟩
      · injection e with e1 _; rw [e1]
      · exact nomatch e
    · rcases keyIs_shape hb with ⟨j,u,rfl,e⟩ | ⟨y,u,rfl,e⟩
      · exact nomatch e
      · injection e with e1 _; rw [e1]
  byValue := fun k v h => by
    rcases keyIs_shape h with ⟨i,t,rfl,rfl⟩ | ⟨x,t,rfl,rfl⟩ <;> rfl
  pyHash := fun hv h => by
    rcases keyIs_shape hv with ⟨i,t,rfl,rfl⟩ | ⟨x,t,rfl,rfl⟩
    · exact wpAny_pyHash_int h
    · exact wpAny_pyHash_str h
  eqBool := fun hu hv h => by
    rcases keyIs_shape hu with ⟨i,t,rfl,rfl⟩ | ⟨x,t,rfl,rfl⟩
    · rcases keyIs_shape hv with ⟨j,u,rfl,rfl⟩ | ⟨y,u,rfl,rfl⟩
      · rw [key_ll] at h; exact wpAny_eqBool_int h
      · rw [key_lr] at h; exact SeqAt.EqAt.int_str i t y u _ _ _ _ h
    · rcases keyIs_shape hv with ⟨j,u,rfl,rfl⟩ | ⟨y,u,rfl,rfl⟩
      · rw [key_rl] at h; exact SeqAt.EqAt.str_int x t j u _ _ _ _ h
      · rw [key_rr] at h; exact wpAny_eqBool_str h
  «strs» := fun k x t v h => by
    rcases keyIs_shape h with ⟨i,u,rfl,e⟩ | ⟨y,u,rfl,e⟩
    · exact nomatch e
    · injection e with e1 _
      subst e1
      cases v <;> rfl
end L2
namespace L2
open PySem PySem.Spec PyProof.Rows
inductive V where
  | non | bl (b : Bool) | int (i : Int) | str (x : Str) | byt (b : Array UInt8) | flt (b : UInt64) | ref (a : Addr) | ty (n : String)
  deriving DecidableEq
def RelV : V → Value → Prop
  | .non,u => u = Value.none
  | .bl b,u => u = Value.bool b
  | .int i,u => ∃ t,u = Value.int i t
  | .str x,u => ∃ t,u = Value.str x t
  | .byt b,u => ∃ t,u = Value.bytes b t
  | .flt b,u => ∃ t,u = Value.float b t
  | .ref a,u => u = Value.ref a
  | .ty n,u => u = Value.type n
abbrev Vals : List V → List Value → Prop := Paired RelV
theorem Vals.length {xs : List V} {us : List Value} (r : Vals xs us) : xs.length = us.length := Paired.length r
theorem Vals.get : ∀ {xs : List V} {us : List Value} {i : Nat} {x : V},Vals xs us → xs[i]? = some x → ∃ u,us[i]? = some u ∧ RelV x u
  | _,_,_,_,.nil,e => by simp at e
  | _,_,0,_,.cons r _,e => by simp at e; subst e; exact ⟨_,rfl,r⟩
  | _,_,i + 1,x,.cons _ t,e => by
    obtain ⟨u,h1,h2⟩ := Vals.get (i := i) (x := x) t (by simpa using e)
    exact ⟨u,by simpa using h1,h2⟩
theorem Vals.set {x : V} {u : Value} (r : RelV x u) : ∀ {xs : List V} {us : List Value} (i : Nat),Vals xs us → Vals (xs.set i x) (us.set i u)
  | _,_,_,.nil => .nil
  | _,_,0,.cons _ t => .cons r t
  | _,_,i + 1,.cons q t => .cons q (Vals.set r i t)
theorem Vals.append : ∀ {xs ys : List V} {us ws : List Value},Vals xs us → Vals ys ws → Vals (xs ++ ys) (us ++ ws)
  | _,_,_,_,.nil,s => s
  | _,_,_,_,.cons r t,s => .cons r (Vals.append t s)
theorem Vals.take : ∀ {xs : List V} {us : List Value} (n : Nat),Vals xs us → Vals (xs.take n) (us.take n)
  | _,_,0,_ => .nil
  | _,_,_ + 1,.nil => .nil
  | _,_,n + 1,.cons r t => .cons r (Vals.take n t)
theorem Vals.drop : ∀ {xs : List V} {us : List Value} (n : Nat),Vals xs us → Vals (xs.drop n) (us.drop n)
  | _,_,0,r => r
  | _,_,_ + 1,.nil => .nil
  | _,_,n + 1,.cons _ t => Vals.drop n t
def RelO : Option V → Option Value → Prop
  | some v,some u => RelV v u
  | none,none => True
  | _,_ => False
def KV {κ : Type} : List (κ × V) → List (κ × Value) → Prop := Paired fun (p : κ × V) (q : κ × Value) => p.1 = q.1 ∧ RelV p.2 q.2
def kV : Key → V
  | .inl i => .int i
  | .inr x => .str x
inductive HO where
  /-- a list -/
  | lst (xs : List V)
  /-- a tuple (never changes) -/
  | tup (xs : List V)
  /-- a dict whose keys are ints and texts; one whose keys are tuples of ints and texts (the empty one is both) -/
  | dK (kvs : List (Key × V)) | dT (kvs : List (List Key × V))
  /-- a set of ints: its members,its size -/
  | set (S : Int → Bool) (n : Nat)
  /-- an instance of the class at C,its dict at dx,its attributes -/
  | ins (C dx : Addr) (fs : List (Str × V))
  /-- the dict of the instance at x -/
  | own (x : Addr)
  /-- the dict of an exception -/
  | xd (fs : List (Str × V))
  /-- a bound method,f of x -/
  | met (f x : Addr)
  /-- a range object lo,lo + 1,.. below hi -/
  | rng (lo hi : Int)
  /-- a thing that is known to the object (the script; a dict while a loop walks it): read,never written while it is so -/
  | frz (o : Obj) (u : HO)
  /-- a code object's table -/
  | tbl (ps : Array Value)
  /-- any other thing,by what is true of its one object (a def of one's own: SetO a S n := HO.ext fun h => ..) -/
  | ext (φ : Heap → Prop)
abbrev Hp := Addr → Option HO
def upd (H : Hp) (a : Addr) (o : HO) : Hp := fun b => if b = a then some o else H b
theorem upd_same {H : Hp} {a : Addr} {o : HO} : upd H a o a = some o := by unfold upd; rw [if_pos rfl]
theorem upd_ne {H : Hp} {a b : Addr} {o : HO} (h : b ≠ a) : upd H a o b = H b := by unfold upd; rw [if_neg h]
theorem ne_of {H : Hp} {a b : Addr} {o u : HO} (h : H a = some o) (h' : H b = some u) (d : o ≠ u) : a ≠ b := by
  intro e; subst e; rw [h] at h'; exact d (Option.some.inj h')
theorem ne_of_none {H : Hp} {a b : Addr} {o : HO} (h : H a = some o) (h' : H b = none) : a ≠ b := by
  intro e; subst e; rw [h] at h'; cases h'
section
variable (P : Program) (w : World)
def ObjOk (H : Hp) (h : Heap) (a : Addr) : HO → Prop
  | .lst xs => xs.length ≤ sizeLine ∧ ∃ (its : List Value) (n : Nat),Vals xs its ∧ h.get? a = some { cls := .type "list",data := .seq its.toArray n }
  | .tup xs => xs.length ≤ sizeLine ∧ ∃ its : List Value,Vals xs its ∧ IsTup h a its.toArray
  | .dK kvs => kvs.length ≤ sizeLine ∧ (a == sysModules) = false ∧ ∃ vs,KV kvs vs ∧ h.DictOf (mixKind P w) a vs
  | .dT kvs => kvs.length ≤ sizeLine ∧ (a == sysModules) = false ∧ ∃ xs : List (List Key × Addr × Value),
      Paired (fun (p : List Key × V) (q : List Key × Addr × Value) => p.1 = q.1 ∧ H q.2.1 = some (.tup (p.1.map kV)) ∧ RelV p.2 q.2.2) kvs xs ∧
      ∃ o es ep,h.get? a = some o ∧ o.ExactDict ∧ o.data = .dict es ep ∧ es.toList = xs.map (entryOfKey (tupleKind (mixKind P w))) ∧ (xs.map (·.1)).Nodup
  | .set S n => h.SetOf (intKind P w) a S n
  | .ins C dx fs => H dx = some (.own a) ∧ fs.length ≤ 1000 ∧ dx ≠ a ∧ h.get? a = some (PySem.W.instObj C dx) ∧
      ∃ mA,h.Ns1 dx mA ∧ (∀ f,RelO (fs.lookup f) (mA f)) ∧ PySem.Within mA (fs.map (·.1))
  | .own _ => ∃ o,h.get? a = some o
  | .xd fs => ∃ mA,h.Ns1 a mA ∧ ∀ f,RelO (fs.lookup f) (mA f)
  | .rng lo hi => ∃ t u v,h.get? a = some { cls := .type "range",data := .fields #[.int lo t,.int hi u,.int 1 v] }
  | .frz o u => h.get? a = some o ∧ ObjOk H h a u
  | .tbl ps => h.get? a = some { cls := .none,data := .fields ps }
  | .met f x => h.get? a = some (PySem.W.methodObj (.ref f) (.ref x))
  | .ext φ => φ h ∧ (∃ o,h.get? a = some o) ∧ ∀ h1 h2 : Heap,φ h1 → (∀ o,h1.get? a = some o → h2.get? a = some o) → φ h2
def HOk (H : Hp) (h : Heap) : Prop := ∀ a o,H a = some o → ObjOk P w H h a o
end
section
variable {P : Program} {w : World} {H H' : Hp} {h h' : Heap} {a : Addr} {o : HO}
theorem ObjOk.lt (x : ObjOk P w H h a o) : a < h.objs.size := by
  cases o with
  | lst xs => obtain ⟨_,_,_,_,e⟩ := x; exact Heap.lt_size e
  | tup xs => obtain ⟨_,_,_,p⟩ := x; exact p.lt
  | dK kvs => obtain ⟨_,_,_,_,o,_,_,e,_⟩ := x; exact Heap.lt_size e
  | dT kvs => obtain ⟨_,_,_,_,o,_,_,e,_⟩ := x; exact Heap.lt_size e
  | set S n => obtain ⟨o,_,_,_,e,_⟩ := x; exact Heap.lt_size e
  | ins C dx fs => obtain ⟨_,_,_,e,_⟩ := x; exact Heap.lt_size e
  | own y => obtain ⟨_,e⟩ := x; exact Heap.lt_size e
  | xd fs => obtain ⟨_,⟨_,_,_,e,_⟩,_⟩ := x; exact Heap.lt_size e
  | rng lo hi => obtain ⟨_,_,_,e⟩ := x; exact Heap.lt_size e
  | frz ob u => obtain ⟨e,_⟩ := x; exact Heap.lt_size e
  | tbl ps => exact Heap.lt_size (show h.get? a = some _ from x)
  | met f y => exact Heap.lt_size (show h.get? a = some _ from x)
  | ext φ => obtain ⟨_,⟨_,e⟩,_⟩ := x; exact Heap.lt_size e
theorem Paired.mapP {α β : Type} {F G : α → β → Prop} : ∀ {l₁ : List α} {l₂ : List β},Paired F l₁ l₂ → (∀ a b,F a b → G a b) → Paired G l₁ l₂
  | _,_,.nil,_ => .nil
  | _,_,.cons r t,f => .cons (f _ _ r) (Paired.mapP t f)
theorem ObjOk.stay (x : ObjOk P w H h a o) (k : ∀ b u,(b = a ∨ H b = some (.own a)) → h.get? b = some u → h'.get? b = some u)
    (ho : ∀ b,H b = some (.own a) → H' b = some (.own a)) (ht : ∀ b xs,H b = some (.tup xs) → H' b = some (.tup xs)) : ObjOk P w H' h' a o := by
  induction o with
  | lst xs => obtain ⟨z,its,n,r,e⟩ := x; exact ⟨z,its,n,r,k _ _ (.inl rfl) e⟩
  | tup xs => obtain ⟨z,its,r,ob,e,c⟩ := x; exact ⟨z,its,r,ob,k _ _ (.inl rfl) e,c⟩
  | dK kvs => obtain ⟨z,y,vs,r,ob,es,ep,e,c⟩ := x; exact ⟨z,y,vs,r,ob,es,ep,k _ _ (.inl rfl) e,c⟩
  | dT kvs =>
    obtain ⟨z,y,xs,r,ob,es,ep,e,c⟩ := x
    exact ⟨z,y,xs,Paired.mapP r fun p q z => ⟨z.1,ht _ _ z.2.1,z.2.2⟩,ob,es,ep,k _ _ (.inl rfl) e,c⟩
  | set S n => obtain ⟨ob,es,ep,t,e,c⟩ := x; exact ⟨ob,es,ep,t,k _ _ (.inl rfl) e,c⟩
  | ins C dx fs =>
    obtain ⟨d,z,ne,e,mA,⟨od,es,ep,e2,c⟩,r⟩ := x
    exact ⟨ho _ d,z,ne,k _ _ (.inl rfl) e,mA,⟨od,es,ep,k _ _ (.inr d) e2,c⟩,r⟩
  | own y => obtain ⟨ob,e⟩ := x; exact ⟨ob,k _ _ (.inl rfl) e⟩
  | xd fs => obtain ⟨mA,⟨od,es,ep,e,c⟩,r⟩ := x; exact ⟨mA,⟨od,es,ep,k _ _ (.inl rfl) e,c⟩,r⟩
  | rng lo hi => obtain ⟨t,u,v,e⟩ := x; exact ⟨t,u,v,k _ _ (.inl rfl) e⟩
  | frz ob u ih => obtain ⟨e,q⟩ := x; exact ⟨k _ _ (.inl rfl) e,ih q⟩
  | tbl ps =>
    have e : h.get? a = some { cls := .none,data := .fields ps } := x
    show h'.get? a = some { cls := .none,data := .fields ps }
    exact k a _ (.inl rfl) e
  | met f y =>
    have e : h.get? a = some (PySem.W.methodObj (.ref f) (.ref y)) := x
    show h'.get? a = some (PySem.W.methodObj (.ref f) (.ref y))
    exact k a _ (.inl rfl) e
  | ext φ => obtain ⟨p,⟨o,e⟩,st⟩ := x; exact ⟨st _ _ p fun o q => k _ _ (.inl rfl) q,⟨o,k _ _ (.inl rfl) e⟩,st⟩
theorem HOk.lt (x : HOk P w H h) (e : H a = some o) : a < h.objs.size := (x a o e).lt
theorem HOk.fresh (x : HOk P w H h) (e : h.objs.size ≤ a) : H a = none := by
  cases q : H a with
  | none => rfl
  | some u => exact absurd (Nat.lt_of_lt_of_le (x.lt q) e) (Nat.lt_irrefl _)
theorem HOk.kept (x : HOk P w H h) (k : ∀ b u,h.get? b = some u → h'.get? b = some u) : HOk P w H h' := fun a o e =>
  (x a o e).stay (fun b u _ q => k b u q) (fun _ q => q) fun _ _ q => q
theorem HOk.laid (x : HOk P w H h) (k : ∀ b u,h.get? b = some u → h'.get? b = some u) (hp : h.objs.size ≤ a) (new : ObjOk P w (upd H a o) h' a o) : HOk P w (upd H a o) h' := fun b u e => by
  have hn := x.fresh hp
  by_cases hb : b = a
  · subst hb; rw [upd_same] at e; cases e; exact new
  · rw [upd_ne hb] at e
    exact (x b u e).stay (fun c v _ q => k c v q) (fun c q => by rw [upd_ne (ne_of_none q hn)]; exact q) fun c xs q => by rw [upd_ne (ne_of_none q hn)]; exact q
end
def Rd (H : Hp) (a : Addr) (u : HO) : Prop := H a = some u ∨ ∃ o,H a = some (.frz o u)
theorem Rd.ok {P : Program} {w : World} {H : Hp} {h : Heap} {a : Addr} {u : HO} (r : Rd H a u) (x : HOk P w H h) : ObjOk P w H h a u := by
  rcases r with r | ⟨o,r⟩
  · exact x a u r
  · obtain ⟨_,q⟩ := x a _ r
    exact q
def Mut : Option HO → Prop
  | some (.lst _) => True
  | some (.dK _) => True
  | some (.dT _) => True
  | some (.set _ _) => True
  | some (.ins _ _ _) => True
  | some (.ext _) => True
  | _ => False
section
variable {P : Program} {w : World} {H : Hp} {h h' : Heap} {x e : Addr} {o' : HO}
theorem HOk.write (ok : HOk P w H h) (mu : Mut (H x)) (he : e = x ∨ H e = some (.own x)) (k : ∀ b u,b ≠ e → h.get? b = some u → h'.get? b = some u) (heo : ∃ u,h'.get? e = some u)
    (new : ObjOk P w (upd H x o') h' x o') : HOk P w (upd H x o') h' := fun b u q => by
  have nown : ∀ c y,H c = some (.own y) → c ≠ x := fun c y r z => by subst z; rw [r] at mu; exact mu
  have ntup : ∀ c xs,H c = some (.tup xs) → c ≠ x := fun c xs r z => by subst z; rw [r] at mu; exact mu
  by_cases hb : b = x
  · subst hb; rw [upd_same] at q; cases q; exact new
  · rw [upd_ne hb] at q
    by_cases hbe : b = e
    · have q' : H b = some (.own x) := by
        rcases he with z | z
        · exact absurd (hbe.trans z) hb
        · rw [hbe]; exact z
      rw [q] at q'; cases q'
      obtain ⟨v,hv⟩ := heo
      exact ⟨v,by rw [hbe]; exact hv⟩
    · refine (ok b u q).stay (fun c v hc r => k c v ?_ r) (fun c r => by rw [upd_ne (nown c b r)]; exact r) fun c xs r => by rw [upd_ne (ntup c xs r)]; exact r
      rcases hc with rfl | hc
      · exact hbe
      · rintro rfl
        rcases he with z | z
        · exact nown c b hc z
        · rw [hc] at z; cases z; exact hb rfl
end
structure Un (fs ex : List Addr) (H H' : Hp) (h h' : Heap) : Prop where
  keep : ∀ b o,h.get? b = some o → H b = none → b ∉ fs → b ∉ ex → h'.get? b = some o
  slot : ∀ b o,h.get? b = some o → H b = none → b ∈ fs → b ∉ ex → ∃ sl,h'.get? b = some { o with slots := sl }
  free : ∀ b o,h.get? b = some o → H b = none → b ∉ ex → H' b = none
  there : ∀ b o,h.get? b = some o → b ∉ ex → ∃ o',h'.get? b = some o'
  tups : ∀ b xs,H b = some (.tup xs) → H' b = some (.tup xs)
  frzs : ∀ b o u,H b = some (.frz o u) → H' b = some (.frz o u)
  tbls : ∀ b ps,H b = some (.tbl ps) → ∃ more,H' b = some (.tbl (ps ++ more))
section
variable {fs fs' ex ex' : List Addr} {H H1 H2 : Hp} {h h1 h2 h' : Heap} {a x e : Addr} {o : HO}
theorem Un.any (u : Un fs ex H H1 h h1) {b : Addr} {ob : Obj} (q : h.get? b = some ob) (n : H b = none) (hx : b ∉ ex) : ∃ sl,h1.get? b = some { ob with slots := sl } := by
  by_cases hb : b ∈ fs
  · exact u.slot b ob q n hb hx
  · exact ⟨ob.slots,u.keep b ob q n hb hx⟩
theorem Un.kept (k : ∀ b u,h.get? b = some u → h'.get? b = some u) : Un fs ex H H h h' :=
  ⟨fun b ob q _ _ _ => k b ob q,fun b ob q _ _ _ => ⟨ob.slots,k b ob q⟩,fun _ _ _ n _ => n,fun b ob q _ => ⟨ob,k b ob q⟩,fun _ _ q => q,fun _ _ _ q => q,fun _ ps q => ⟨#[],by rw [q]; simp⟩⟩
theorem Un.refl : Un fs ex H H h h := Un.kept fun _ _ q => q
theorem Un.laid (k : ∀ b u,h.get? b = some u → h'.get? b = some u) (hp : h.objs.size ≤ a) (hn : H a = none) : Un fs ex H (upd H a o) h h' where
  keep := fun b u q _ _ _ => k b u q
  slot := fun b u q _ _ _ => ⟨u.slots,k b u q⟩
  free := fun b u q n _ => by rw [upd_ne (Nat.ne_of_lt (Nat.lt_of_lt_of_le (Heap.lt_size q) hp))]; exact n
  there := fun b u q _ => ⟨u,k b u q⟩
  tups := fun b xs q => by rw [upd_ne (ne_of_none q hn)]; exact q
  frzs := fun b u xs q => by rw [upd_ne (ne_of_none q hn)]; exact q
  tbls := fun b ps q => ⟨#[],by rw [upd_ne (ne_of_none q hn),q]; simp⟩
theorem Un.write (mu : Mut (H x)) (he : e = x ∨ H e = some (.own x)) (k : ∀ b u,b ≠ e → h.get? b = some u → h'.get? b = some u) (heo : ∃ u,h'.get? e = some u) : Un fs ex H (upd H x o) h h' := by
  have hx : ∀ b,H b = none → b ≠ x := fun b n z => by subst z; rw [n] at mu; exact mu
  have hb : ∀ b,H b = none → b ≠ e := fun b n z => by
    subst z
    rcases he with r | r
    · exact hx b n r
    · rw [n] at r; cases r
  have hm : ∀ b u,H b = some u → ¬ Mut (some u) → b ≠ x := fun b u q nm z => by subst z; rw [q] at mu; exact nm mu
  refine ⟨fun b u q n _ _ => k b u (hb b n) q,fun b u q n _ _ => ⟨u.slots,k b u (hb b n) q⟩,fun b u q n _ => by rw [upd_ne (hx b n)]; exact n,fun b u q _ => ?_,
    fun b xs q => by rw [upd_ne (hm b _ q fun z => z)]; exact q,fun b u xs q => by rw [upd_ne (hm b _ q fun z => z)]; exact q,fun b ps q => ⟨#[],by rw [upd_ne (hm b _ q fun z => z),q]; simp⟩⟩
  by_cases hbe : b = e
  · subst hbe; exact heo
  · exact ⟨u,k b u hbe q⟩
end
def trk (h : Heap) (H : Hp) : List Addr := (List.range h.objs.size).filter fun a => (H a).isSome
def hidT (h : Heap) (H : Hp) : Heap := PySem.W.hideAll h (trk h H)
theorem hidT_size (h : Heap) (H : Hp) : (hidT h H).objs.size = h.objs.size := PySem.W.hideAll_size _ _
theorem hidT_get {h : Heap} {H : Hp} {b : Addr} {o : Obj} (e : h.get? b = some o) (n : H b = none) : (hidT h H).get? b = some o :=
  PySem.W.hideAll_get _ e fun hm => by
    have q : (H b).isSome = true := (List.mem_filter.mp hm).2
    rw [n] at q; simp at q
theorem of_hidT {h : Heap} {H : Hp} {b : Addr} {o : Obj} (e : (hidT h H).get? b = some o) : h.get? b = some o ∧ H b = none := by
  have e' : h.get? b = some o := PySem.W.of_hideAll (trk h H) e
  refine ⟨e',?_⟩
  cases q : H b with
  | none => rfl
  | some x =>
    have hm : b ∈ trk h H := List.mem_filter.mpr ⟨List.mem_range.mpr (Heap.lt_size e'),by simp [q]⟩
    have z : (hidT h H).get? b = none := PySem.W.hideAll_none (trk h H) hm
    rw [z] at e; cases e
end L2
namespace L2
open PySem PySem.Spec PyProof.Rows
structure Mod (K : PySem.W.Frag) (mg : Str → Option Value) (base : Heap) : Prop where
  kin : K.In base
  glob : base.Ns mainGlobals mg
  blt : ∃ mb,base.Ns builtinsNs mb ∧ ∀ x : Str,x ≠ "__name__" → mb x = bootBuiltins x
  nolimit : base.NoLimit
structure Cx where
  prog : Program
  w : World
  K : PySem.W.Frag
  mg : Str → Option Value
  base : Heap
  A : Around
  N : List Str
  s₀ : Shared
  H₀ : Hp
  env : Env
  outer : List Env
  stack : List Env
  ex : List Addr
  fn : Str → Bool
  calm : Bool
  pn : List (Addr × Obj)
  xe : Value → Shared → Prop
def frs (l : List Env) : List Addr := l.filterMap (·.frame)
abbrev Cx.fs (X : Cx) : List Addr := frs X.outer
def Vis (sc : Scope) (x : Str) : Prop := sc.names.lookup x = some .local ∨ sc.names.lookup x = some .cell ∨ sc.names.lookup x = some .free
def Loc (sc : Scope) (x : Str) : Prop := sc.names.lookup x = some .local ∨ sc.names.lookup x = some .cell
def Look (env : Env) (h : Heap) (m : Str → Option Value) (x : Str) (u : Value) : Prop :=
  (env.kindOf x = some .local ∧ m x = some u) ∨ ((env.kindOf x = some .cell ∨ env.kindOf x = some .free) ∧ ∃ c,env.cells.lookup x = some c ∧ h.IsCell c (some u))
structure Cx.Ok (X : Cx) : Prop where
  mod : Mod X.K X.mg X.base
  kind : X.env.scope.kind = .function
  glob : X.env.globals = mainGlobals
  blt : X.env.builtins = builtinsNs
  above : X.s₀.heap.objs.size ≤ X.env.locals
  inj : ∀ x y c,X.env.cells.lookup x = some c → X.env.cells.lookup y = some c → x = y
  has : ∀ x,(X.env.kindOf x = some .cell ∨ X.env.kindOf x = some .free) → ∃ c,X.env.cells.lookup x = some c
  cab : ∀ x c,X.fn x = true → X.env.cells.lookup x = some c → X.s₀.heap.objs.size ≤ c
  hd : X.calm = true → X.A.handled = none
  frames : X.A.frames = some X.stack
  stk : X.stack = X.outer ∨ (X.stack = X.env :: X.outer ∧ X.env.frame = some X.env.locals)
  exf : ∀ b ∈ X.ex,b ≠ X.env.locals ∧ ∀ x c,X.env.cells.lookup x = some c → c ≠ b
  bs : ∀ b o,X.base.get? b = some o → X.s₀.heap.get? b = some o ∧ X.H₀ b = none
  bsz : X.base.objs.size ≤ X.s₀.heap.objs.size
  noex : ∀ b o,X.base.get? b = some o → b ∉ X.ex
  exfs : ∀ b ∈ X.ex,b ∉ X.fs
  funs : X.s₀.heap.FunFrames X.base X.outer
  frf : ∀ b ∈ X.fs,X.H₀ b = none
structure Inv (X : Cx) (pins : List (Addr × Obj)) (σ : List (Option V)) (H : Hp) (s : Shared) : Prop where
  ok : X.Ok
  os : s.os = X.s₀.os
  bare : AllBare s.gens
  base : Un X.fs X.ex X.H₀ H X.s₀.heap s.heap
  loc : ∃ m,s.heap.Ns X.env.locals m ∧ ∀ (i : Nat) (x : Str) (v : V),X.N[i]? = some x → σ[i]? = some (some v) → Vis X.env.scope x → ∃ u,RelV v u ∧ Look X.env s.heap m x u
  cell : ∀ x c,X.env.cells.lookup x = some c → ∃ v,s.heap.IsCell c v
  free : H X.env.locals = none
  freeC : ∀ x c,X.env.cells.lookup x = some c → H c = none
  pin : ∀ p ∈ X.pn ++ pins,s.heap.get? p.1 = some p.2 ∧ H p.1 = none ∧ p.1 ≠ X.env.locals ∧ p.1 ∉ X.fs ∧ ∀ v,p.2.data ≠ .cell v
  hok : HOk X.prog X.w H s.heap
  len : σ.length = X.N.length
section
variable {X : Cx} {pins : List (Addr × Obj)} {σ : List (Option V)} {H H' : Hp} {s : Shared} {h' : Heap}
theorem Cx.Ok.nofr (ok : X.Ok) {b : Addr} {o : Obj} (e : X.base.get? b = some o) : b ∉ X.fs := fun hb => by
  have := (ok.funs.mem hb).1
  rw [e] at this; cases this
theorem Inv.bs (I : Inv X pins σ H s) : ∀ b o,X.base.get? b = some o → s.heap.get? b = some o ∧ H b = none := fun b o e =>
  ⟨I.base.keep b o (I.ok.bs b o e).1 (I.ok.bs b o e).2 (I.ok.nofr e) (I.ok.noex b o e),I.base.free b o (I.ok.bs b o e).1 (I.ok.bs b o e).2 (I.ok.noex b o e)⟩
theorem Inv.bk (I : Inv X pins σ H s) : ∀ b o,X.base.get? b = some o → s.heap.get? b = some o := fun b o e => (I.bs b o e).1
theorem Inv.mod (I : Inv X pins σ H s) : Mod X.K X.mg X.base := I.ok.mod
theorem Inv.kIn (I : Inv X pins σ H s) : X.K.In s.heap := I.ok.mod.kin.keeps I.bk
theorem Inv.lt (I : Inv X pins σ H s) : X.env.locals < s.heap.objs.size := let ⟨_,hn,_⟩ := I.loc; hn.lt
theorem Inv.sz (I : Inv X pins σ H s) : X.s₀.heap.objs.size ≤ s.heap.objs.size := Nat.le_trans I.ok.above (Nat.le_of_lt I.lt)
theorem Inv.nofs (I : Inv X pins σ H s) {a : Addr} (h : s.heap.objs.size ≤ a) : a ∉ X.fs := fun hb => by
  obtain ⟨_,o,ho,_⟩ := I.ok.funs.mem hb
  exact absurd (Nat.lt_of_lt_of_le (Heap.lt_size ho) (Nat.le_trans I.sz h)) (Nat.lt_irrefl _)
theorem Inv.cne (I : Inv X pins σ H s) : ∀ x c,X.env.cells.lookup x = some c → c ≠ X.env.locals := fun x c e z => by
  obtain ⟨v,o,ho,hd⟩ := I.cell x c e
  obtain ⟨m,⟨o',es,ep,ho',hd',_⟩,_⟩ := I.loc
  rw [z,ho'] at ho; cases ho; rw [hd'] at hd; cases hd
theorem Inv.funs (I : Inv X pins σ H s) : s.heap.FunFrames X.base X.outer := by
  have all : ∀ (l : List Env),(∀ b ∈ frs l,b ∈ X.fs) → X.s₀.heap.FunFrames X.base l → s.heap.FunFrames X.base l := by
    intro l
    induction l with
    | nil => intro _ _; trivial
    | cons env r ih =>
      intro hs hl
      obtain ⟨hk,⟨L,o,hf,hn,ho,hd⟩,hr⟩ := hl
      have hL : L ∈ X.fs := hs L (by unfold frs; rw [List.filterMap_cons,hf]; exact List.mem_cons_self)
      obtain ⟨sl,e⟩ := I.base.slot L o ho (I.ok.frf L hL) hL fun z => I.ok.exfs L z hL
      exact ⟨hk,⟨L,_,hf,hn,e,hd⟩,ih (fun b hb => hs b (by unfold frs; rw [List.filterMap_cons,hf]; exact List.mem_cons_of_mem _ hb)) hr⟩
  exact all X.outer (fun _ hb => hb) I.ok.funs
theorem Inv.stack (I : Inv X pins σ H s) : s.heap.FunFrames X.base X.stack := by
  rcases I.ok.stk with e | ⟨e,hf⟩
  · rw [e]; exact I.funs
  · rw [e]
    obtain ⟨m,hn,_⟩ := I.loc
    refine .cons (by rw [I.ok.kind]; decide) hf hn ?_ I.funs
    exact Heap.get?_none_of_le (Nat.le_trans I.ok.bsz I.ok.above)
theorem Inv.stkSub (I : Inv X pins σ H s) : ∀ b ∈ frs X.stack,b ∈ X.env.locals :: X.fs := fun b hb => by
  rcases I.ok.stk with e | ⟨e,hf⟩
  · rw [e] at hb; exact List.mem_cons_of_mem _ hb
  · rw [e] at hb
    unfold frs at hb
    rw [List.filterMap_cons,hf] at hb
    exact hb
theorem Inv.stkFree (I : Inv X pins σ H s) : ∀ b ∈ frs X.stack,H b = none := fun b hb => by
  rcases List.mem_cons.mp (I.stkSub b hb) with e | hb
  · rw [e]; exact I.free
  · obtain ⟨_,o,ho,_⟩ := I.ok.funs.mem hb
    exact I.base.free b o ho (I.ok.frf b hb) fun z => I.ok.exfs b z hb
theorem Inv.step {g' : Array GenState} {t' : Nat} {d' : Drawn} {ch : List Addr} (I : Inv X pins σ H s)
    (hch : ∀ b ∈ ch,(b ∈ X.ex ∨ X.s₀.heap.objs.size ≤ b) ∧ b ≠ X.env.locals ∧ (∀ x c,X.env.cells.lookup x = some c → c ≠ b) ∧ ∀ p ∈ X.pn ++ pins,p.1 ≠ b)
    (keep : ∀ b o,b ≠ X.env.locals → b ∉ X.fs → b ∉ ch → s.heap.get? b = some o → H b = none → h'.get? b = some o)
    (slot : ∀ b o,b ≠ X.env.locals → b ∈ X.fs → b ∉ ch → s.heap.get? b = some o → H b = none → ∃ sl,h'.get? b = some { o with slots := sl }) (free : ∀ b o,b ∉ ch → s.heap.get? b = some o → H b = none → H' b = none)
    (there : ∀ b o,b ∉ ch → s.heap.get? b = some o → ∃ o',h'.get? b = some o')
    (tups : ∀ b xs,H b = some (.tup xs) → H' b = some (.tup xs)) (frzs : ∀ b o u,H b = some (.frz o u) → H' b = some (.frz o u)) (tbls : ∀ b ps,H b = some (.tbl ps) → ∃ more,H' b = some (.tbl (ps ++ more)))
    (ns : ∀ m,s.heap.Ns X.env.locals m → h'.Ns X.env.locals m) (hok : HOk X.prog X.w H' h') (hg : AllBare g') :
    Inv X pins σ H' { s with heap := h',gens := g',drawn := d',toks := t' } := by
  have neL : ∀ b o,X.s₀.heap.get? b = some o → b ≠ X.env.locals := fun b o e => Nat.ne_of_lt (Nat.lt_of_lt_of_le (Heap.lt_size e) I.ok.above)
  have neC : ∀ b o,X.s₀.heap.get? b = some o → b ∉ X.ex → b ∉ ch := fun b o e hx hb => by
    rcases (hch b hb).1 with z | z
    · exact hx z
    · exact absurd (Nat.lt_of_lt_of_le (Heap.lt_size e) z) (Nat.lt_irrefl _)
  have cellK : ∀ x c,X.env.cells.lookup x = some c → ∀ v,s.heap.IsCell c v → h'.IsCell c v := fun x c e v ⟨o,ho,hd⟩ => by
    have nch : c ∉ ch := fun z => (hch c z).2.2.1 x c e rfl
    by_cases hc : c ∈ X.fs
    · obtain ⟨sl,q⟩ := slot c o (I.cne x c e) hc nch ho (I.freeC x c e)
      exact ⟨_,q,hd⟩
    · exact ⟨o,keep c o (I.cne x c e) hc nch ho (I.freeC x c e),hd⟩
  refine ⟨I.ok,I.os,hg,⟨fun b o e n hb hx => ?_,fun b o e n hb hx => ?_,fun b o e n hx => ?_,fun b o e hx => ?_,fun b xs e => tups b xs (I.base.tups b xs e),fun b o xs e => frzs b o xs (I.base.frzs b o xs e),fun b ps e => ?_⟩,?_,fun x c e => ?_,?_,fun x c e => ?_,fun p hp => ?_,hok,I.len⟩
  · exact keep b o (neL b o e) hb (neC b o e hx) (I.base.keep b o e n hb hx) (I.base.free b o e n hx)
  · obtain ⟨sl,e1⟩ := I.base.slot b o e n hb hx
    obtain ⟨sl',e2⟩ := slot b _ (neL b o e) hb (neC b o e hx) e1 (I.base.free b o e n hx)
    exact ⟨sl',e2⟩
  · obtain ⟨o',e1⟩ := I.base.there b o e hx
    exact free b o' (neC b o e hx) e1 (I.base.free b o e n hx)
  · obtain ⟨o',e1⟩ := I.base.there b o e hx
    exact there b o' (neC b o e hx) e1
  · obtain ⟨m1,e1⟩ := I.base.tbls b ps e
    obtain ⟨m2,e2⟩ := tbls b _ e1
    exact ⟨m1 ++ m2,by rw [e2,Array.append_assoc]⟩
  · obtain ⟨m,hn,hl⟩ := I.loc
    refine ⟨m,ns m hn,fun i x v e1 e2 e3 => ?_⟩
    obtain ⟨u,r,l⟩ := hl i x v e1 e2 e3
    refine ⟨u,r,?_⟩
    rcases l with l | ⟨k,c,e,z⟩
    · exact .inl l
    · exact .inr ⟨k,c,e,cellK x c e _ z⟩
  · obtain ⟨v,z⟩ := I.cell x c e
    exact ⟨v,cellK x c e v z⟩
  · obtain ⟨m,⟨o,_,_,ho,_⟩,_⟩ := I.loc
    exact free _ o (fun z => (hch _ z).2.1 rfl) ho I.free
  · obtain ⟨v,o,ho,hd⟩ := I.cell x c e
    exact free c o (fun z => (hch c z).2.2.1 x c e rfl) ho (I.freeC x c e)
  · obtain ⟨e,n,ne,nf,d⟩ := I.pin p hp
    have nch : p.1 ∉ ch := fun z => (hch p.1 z).2.2.2 p hp rfl
    exact ⟨keep p.1 p.2 ne nf nch e n,free p.1 p.2 nch e n,ne,nf,d⟩
theorem Inv.un {t' : Nat} (I : Inv X pins σ H s) (u : Un X.fs [] H H' s.heap h') (hok : HOk X.prog X.w H' h') : Inv X pins σ H' { s with heap := h',toks := t' } := by
  obtain ⟨m,⟨o,es,ep,ho,r⟩,_⟩ := id I.loc
  obtain ⟨sl,hL⟩ := u.any ho I.free (by simp)
  exact I.step (g' := s.gens) (d' := s.drawn) (ch := []) (fun _ z => nomatch z) (fun b o _ hb _ e n => u.keep b o e n hb (by simp)) (fun b o _ hb _ e n => u.slot b o e n hb (by simp)) (fun b o _ e n => u.free b o e n (by simp)) (fun b o _ e => u.there b o e (by simp)) u.tups u.frzs u.tbls (fun m' hm => by
    obtain ⟨o',es',ep',ho',r'⟩ := hm
    rw [ho] at ho'; cases ho'
    exact ⟨_,es',ep',hL,r'⟩) hok I.bare
theorem Inv.call {g' : Array GenState} {t' : Nat} {d' : Drawn} {ch : List Addr} (I : Inv X pins σ H s) (u : Un (frs X.stack) ch H H' s.heap h') (hok : HOk X.prog X.w H' h') (hg : AllBare g')
    (hch : ∀ b ∈ ch,(b ∈ X.ex ∨ X.s₀.heap.objs.size ≤ b) ∧ b ≠ X.env.locals ∧ (∀ x c,X.env.cells.lookup x = some c → c ≠ b) ∧ ∀ p ∈ X.pn ++ pins,p.1 ≠ b) :
    Inv X pins σ H' { s with heap := h',gens := g',drawn := d',toks := t' } := by
  obtain ⟨m,⟨o,es,ep,ho,r⟩,_⟩ := id I.loc
  obtain ⟨sl,hL⟩ := u.any ho I.free fun z => (hch _ z).2.1 rfl
  exact I.step (ch := ch) hch (fun b o hL hb hc e n => u.keep b o e n (fun z => (List.mem_cons.mp (I.stkSub b z)).elim hL hb) hc) (fun b o _ _ hc e n => u.any e n hc) (fun b o hc e n => u.free b o e n hc) (fun b o hc e => u.there b o e hc) u.tups u.frzs u.tbls (fun m' hm => by
    obtain ⟨o',es',ep',ho',r'⟩ := hm
    rw [ho] at ho'; cases ho'
    exact ⟨_,es',ep',hL,r'⟩) hok hg
theorem Inv.turned {t' : Nat} {it : Addr} (I : Inv X pins σ H s) (k : ∀ b o,b ≠ it → s.heap.get? b = some o → h'.get? b = some o) (hn : H it = none) (hL : it ≠ X.env.locals)
    (h1 : it ∈ X.ex ∨ X.s₀.heap.objs.size ≤ it) (h2 : ∀ x c,X.env.cells.lookup x = some c → c ≠ it) (h3 : ∀ p ∈ X.pn ++ pins,p.1 ≠ it) : Inv X pins σ H { s with heap := h',toks := t' } := by
  have nit : ∀ b u,H b = some u → b ≠ it := fun b u e z => by rw [z,hn] at e; cases e
  refine I.step (g' := s.gens) (d' := s.drawn) (ch := [it]) (fun b hb => ?_) (fun b o _ _ hc e _ => k b o (fun z => hc (by simp [z])) e) (fun b o _ _ hc e _ => ⟨o.slots,k b o (fun z => hc (by simp [z])) e⟩) (fun _ _ _ _ n => n)
    (fun b o hc e => ⟨o,k b o (fun z => hc (by simp [z])) e⟩) (fun _ _ e => e) (fun _ _ _ e => e) (fun b ps e => ⟨#[],by rw [e]; simp⟩) (fun m hm => ?_) (fun b u e => ?_) I.bare
  · have e : b = it := by simpa using hb
    subst e
    exact ⟨h1,hL,h2,h3⟩
  · obtain ⟨o,es,ep,ho,r⟩ := hm
    exact ⟨o,es,ep,k _ o (Ne.symm hL) ho,r⟩
  · refine (I.hok b u e).stay (fun c v hc q => k c v ?_ q) (fun _ q => q) fun _ _ q => q
    rcases hc with z | z
    · rw [z]; exact nit b u e
    · exact nit c _ z
theorem Inv.tok (I : Inv X pins σ H s) (t : Nat) : Inv X pins σ H { s with toks := t } := I.un (h' := s.heap) (t' := t) Un.refl I.hok
theorem Inv.kept {t' : Nat} (I : Inv X pins σ H s) (k : ∀ b u,s.heap.get? b = some u → h'.get? b = some u) : Inv X pins σ H { s with heap := h',toks := t' } := I.un (Un.kept k) (I.hok.kept k)
theorem Inv.laid {a : Addr} {o : HO} {t' : Nat} (I : Inv X pins σ H s) (k : ∀ b u,s.heap.get? b = some u → h'.get? b = some u) (hp : s.heap.objs.size ≤ a) (new : ObjOk X.prog X.w (upd H a o) h' a o) :
    Inv X pins σ (upd H a o) { s with heap := h',toks := t' } := I.un (Un.laid k hp (I.hok.fresh hp)) (I.hok.laid k hp new)
theorem Inv.write {x e : Addr} {o : HO} {t' : Nat} (I : Inv X pins σ H s) (mu : Mut (H x)) (he : e = x ∨ H e = some (.own x)) (k : ∀ b u,b ≠ e → s.heap.get? b = some u → h'.get? b = some u) (heo : ∃ u,h'.get? e = some u)
    (new : ObjOk X.prog X.w (upd H x o) h' x o) : Inv X pins σ (upd H x o) { s with heap := h',toks := t' } := I.un (Un.write mu he k heo) (I.hok.write mu he k heo new)
theorem Inv.pins_of {pins' : List (Addr × Obj)} (I : Inv X pins σ H s) (h : ∀ p ∈ pins',s.heap.get? p.1 = some p.2 ∧ H p.1 = none ∧ p.1 ≠ X.env.locals ∧ p.1 ∉ X.fs ∧ ∀ v,p.2.data ≠ .cell v) : Inv X pins' σ H s :=
  ⟨I.ok,I.os,I.bare,I.base,I.loc,I.cell,I.free,I.freeC,fun p hp => (List.mem_append.mp hp).elim (fun z => I.pin p (List.mem_append_left _ z)) (h p),I.hok,I.len⟩
theorem nodup_ix {N : List Str} (hN : N.Nodup) {i j : Nat} {x : Str} (a : N[i]? = some x) (b : N[j]? = some x) : i = j := by
  obtain ⟨h1,e1⟩ := List.getElem?_eq_some_iff.mp a
  obtain ⟨h2,e2⟩ := List.getElem?_eq_some_iff.mp b
  exact (List.getElem_inj hN).mp (e1.trans e2.symm)
theorem store_ok2 {M : Model} {A : Around} {E : Value → Shared → Prop} {i : Nat} {x : Str} {v : V} {u : Value} {Q : Unit → Shared → Prop} (I : Inv X pins σ H s) (hN : X.N.Nodup) (hi : X.N[i]? = some x) (hx : Loc X.env.scope x) (r : RelV v u)
    (h : ∀ s',Inv X pins (σ.set i (some v)) H s' → (∃ a,Heap.SameBut a s.heap s'.heap ∧ (a = X.env.locals ∨ X.env.cells.lookup x = some a)) → Q () s') (hf : X.fn x = true ∨ X.env.scope.names.lookup x = some .local := by first | exact .inl rfl | exact .inr rfl | assumption) : wpAny M A (storeName X.env x u) Q E s := by
  obtain ⟨m,hn,hl⟩ := id I.loc
  have hcls : (X.env.scope.kind == .class || (X.env.scope.kind == .module && X.env.locals != X.env.globals)) = false := by rw [I.ok.kind]; rfl
  have hiσ : i < σ.length := by rw [I.len]; exact (List.getElem?_eq_some_iff.mp hi).1
  have cne := I.cne
  have tracked : ∀ {a : Addr} {h' : Heap},(∃ o,s.heap.get? a = some o ∧ H a = none) → Heap.SameBut a s.heap h' → HOk X.prog X.w H h' := fun {a h'} ha hs b ob e => by
    obtain ⟨_,_,hfree⟩ := ha
    refine (I.hok b ob e).stay (fun c w' hc q => (hs.2 c ?_).trans q) (fun _ q => q) fun _ _ q => q
    rintro rfl
    rcases hc with rfl | hc
    · rw [hfree] at e; cases e
    · rw [hfree] at hc; cases hc
  rcases hx with hk | hk
  · refine wpAny_storeName_local hk hn (fun h' hn' hs => ?_) hcls
    obtain ⟨oL,_,_,hoL,_⟩ := id hn
    refine h _ ⟨I.ok,I.os,I.bare,⟨fun b o e n hb hx => ?_,fun b o e n hb hx => ?_,I.base.free,fun b o e hx => ?_,I.base.tups,I.base.frzs,I.base.tbls⟩,⟨_,hn',fun j y v' e1 e2 e3 => ?_⟩,fun y c e => ?_,I.free,I.freeC,fun p hp => ?_,tracked ⟨oL,hoL,I.free⟩ hs,by simpa using I.len⟩ ⟨_,hs,.inl rfl⟩
    · exact (hs.2 b (Nat.ne_of_lt (Nat.lt_of_lt_of_le (Heap.lt_size e) I.ok.above))).trans (I.base.keep b o e n hb hx)
    · obtain ⟨sl,e1⟩ := I.base.slot b o e n hb hx
      exact ⟨sl,(hs.2 b (Nat.ne_of_lt (Nat.lt_of_lt_of_le (Heap.lt_size e) I.ok.above))).trans e1⟩
    · obtain ⟨o',e1⟩ := I.base.there b o e hx
      exact ⟨o',(hs.2 b (Nat.ne_of_lt (Nat.lt_of_lt_of_le (Heap.lt_size e) I.ok.above))).trans e1⟩
    · by_cases hj : j = i
      · subst hj
        rw [hi] at e1; cases e1
        rw [List.getElem?_set_self hiσ] at e2
        cases e2
        exact ⟨u,r,.inl ⟨hk,by simp⟩⟩
      · rw [List.getElem?_set_ne (Ne.symm hj)] at e2
        obtain ⟨u',r',q⟩ := hl j y v' e1 e2 e3
        refine ⟨u',r',?_⟩
        rcases q with ⟨k,e⟩ | ⟨k,c,e,z⟩
        · refine .inl ⟨k,?_⟩
          have : y ≠ x := fun e => hj (nodup_ix hN e1 (e ▸ hi))
          simp [this,e]
        · exact .inr ⟨k,c,e,z.sameBut hs (cne y c e)⟩
    · obtain ⟨w',z⟩ := I.cell y c e
      exact ⟨w',z.sameBut hs (cne y c e)⟩
    · obtain ⟨e,n,ne,nf,d⟩ := I.pin p hp
      exact ⟨(hs.2 p.1 ne).trans e,n,ne,nf,d⟩
  · have hfn : X.fn x = true := by
      rcases hf with z | z
      · exact z
      · rw [z] at hk; cases hk
    obtain ⟨c,hc⟩ := I.ok.has x (.inl hk)
    obtain ⟨w',z⟩ := I.cell x c hc
    refine wpAny_storeName_cell I.ok.kind hk hc z (fun h' hc' hs => ?_)
    obtain ⟨oc,hoc,hocd⟩ := id z
    refine h { s with heap := h' } ⟨I.ok,I.os,I.bare,⟨fun b o e n hb hx => ?_,fun b o e n hb hx => ?_,I.base.free,fun b o e hx => ?_,I.base.tups,I.base.frzs,I.base.tbls⟩,⟨m,hn.sameBut hs (Ne.symm (cne x c hc)),fun j y v' e1 e2 e3 => ?_⟩,fun y c' e => ?_,I.free,I.freeC,fun p hp => ?_,tracked ⟨oc,hoc,I.freeC x c hc⟩ hs,by simpa using I.len⟩ ⟨c,hs,.inr hc⟩
    · exact (hs.2 b (Nat.ne_of_lt (Nat.lt_of_lt_of_le (Heap.lt_size e) (I.ok.cab x c hfn hc)))).trans (I.base.keep b o e n hb hx)
    · obtain ⟨sl,e1⟩ := I.base.slot b o e n hb hx
      exact ⟨sl,(hs.2 b (Nat.ne_of_lt (Nat.lt_of_lt_of_le (Heap.lt_size e) (I.ok.cab x c hfn hc)))).trans e1⟩
    · obtain ⟨o',e1⟩ := I.base.there b o e hx
      exact ⟨o',(hs.2 b (Nat.ne_of_lt (Nat.lt_of_lt_of_le (Heap.lt_size e) (I.ok.cab x c hfn hc)))).trans e1⟩
    · by_cases hj : j = i
      · subst hj
        rw [hi] at e1; cases e1
        rw [List.getElem?_set_self hiσ] at e2
        cases e2
        exact ⟨u,r,.inr ⟨.inl hk,c,hc,hc'⟩⟩
      · rw [List.getElem?_set_ne (Ne.symm hj)] at e2
        obtain ⟨u',r',q⟩ := hl j y v' e1 e2 e3
        refine ⟨u',r',?_⟩
        rcases q with q | ⟨k,c',e,z'⟩
        · exact .inl q
        · refine .inr ⟨k,c',e,z'.sameBut hs ?_⟩
          rintro rfl
          exact hj (nodup_ix hN e1 (I.ok.inj _ _ _ e hc ▸ hi))
    · by_cases hcc : c' = c
      · subst hcc; exact ⟨_,hc'⟩
      · obtain ⟨w2,z2⟩ := I.cell y c' e
        exact ⟨w2,z2.sameBut hs hcc⟩
    · obtain ⟨e,n,ne,nf,d⟩ := I.pin p hp
      refine ⟨(hs.2 p.1 ?_).trans e,n,ne,nf,d⟩
      intro q
      rw [q,hoc] at e
      have q' : oc = p.2 := Option.some.inj e
      exact d w' (by rw [← q']; exact hocd)
theorem store_ok {M : Model} {A : Around} {E : Value → Shared → Prop} {i : Nat} {x : Str} {v : V} {u : Value} {Q : Unit → Shared → Prop} (I : Inv X pins σ H s) (hN : X.N.Nodup) (hi : X.N[i]? = some x) (hx : Loc X.env.scope x) (r : RelV v u)
    (h : ∀ s',Inv X pins (σ.set i (some v)) H s' → Q () s') (hf : X.fn x = true ∨ X.env.scope.names.lookup x = some .local := by first | exact .inl rfl | exact .inr rfl | assumption) : wpAny M A (storeName X.env x u) Q E s :=
  store_ok2 I hN hi hx r (fun s' I' _ => h s' I') hf
theorem Inv.call' {s' : Shared} {ch : List Addr} (I : Inv X pins σ H s) (ho : s'.os = s.os) (u : Un (frs X.stack) ch H H' s.heap s'.heap) (hok : HOk X.prog X.w H' s'.heap) (hg : AllBare s'.gens)
    (hch : ∀ b ∈ ch,(b ∈ X.ex ∨ X.s₀.heap.objs.size ≤ b) ∧ b ≠ X.env.locals ∧ (∀ x c,X.env.cells.lookup x = some c → c ≠ b) ∧ ∀ p ∈ X.pn ++ pins,p.1 ≠ b) : Inv X pins σ H' s' := by
  obtain ⟨h',g',d',t',o'⟩ := s'
  have e : o' = s.os := ho
  subst e
  exact I.call (g' := g') (t' := t') (d' := d') u hok hg hch
end
abbrev XK := Value → Option Addr → Hp → Prop
abbrev St := List (Option V)
abbrev VK := V → Hp → Prop
abbrev TE := St → Hp → VK → Prop
abbrev TT := St → Hp → (Bool → Hp → Prop) → Prop
abbrev TA := St → Hp → (List V → Hp → Prop) → Prop
structure Ends where
  nx : St → Hp → Prop
  rt : VK
  bk : St → Hp → Prop := fun _ _ => False
  ct : St → Hp → Prop := fun _ _ => False
abbrev TS := Ends → St → Hp → Prop
def EP (X : Cx) (pins : List (Addr × Obj)) (σ : St) (Q : VK) (u : Value) (s' : Shared) : Prop := ∃ v H',Inv X pins σ H' s' ∧ RelV v u ∧ Q v H'
def TP (X : Cx) (pins : List (Addr × Obj)) (σ : St) (Q : Bool → Hp → Prop) (b : Bool) (s' : Shared) : Prop := ∃ H',Inv X pins σ H' s' ∧ Q b H'
def AP (X : Cx) (pins : List (Addr × Obj)) (σ : St) (Q : List V → Hp → Prop) (us : List Value) (s' : Shared) : Prop := ∃ vs H',Inv X pins σ H' s' ∧ Vals vs us ∧ Q vs H'
def SP (X : Cx) (pins : List (Addr × Obj)) (D : Ends) (f : Flow) (s' : Shared) : Prop :=
  match f with
  | .next => ∃ σ' H',Inv X pins σ' H' s' ∧ D.nx σ' H'
  | .brk => ∃ σ' H',Inv X pins σ' H' s' ∧ D.bk σ' H'
  | .cont => ∃ σ' H',Inv X pins σ' H' s' ∧ D.ct σ' H'
  | .ret u => ∃ v σ' H',Inv X pins σ' H' s' ∧ RelV v u ∧ D.rt v H'
def PE (X : Cx) (e : Expr) (t : TE) : Prop :=
  ∀ (pins : List (Addr × Obj)) (s : Shared) (σ : St) (H : Hp) (Q : VK),Inv X pins σ H s → t σ H Q → wpAny (model X.prog X.w) X.A (eval e X.env) (EP X pins σ Q) X.xe s
def PT (X : Cx) (e : Expr) (t : TT) : Prop :=
  ∀ (pins : List (Addr × Obj)) (s : Shared) (σ : St) (H : Hp) (Q : Bool → Hp → Prop),Inv X pins σ H s → t σ H Q → wpAny (model X.prog X.w) X.A (isTrue e X.env (eval e X.env)) (TP X pins σ Q) X.xe s
def PW (X : Cx) (e : Expr) (t : TT) : Prop :=
  ∀ (whole : Sem Value) (pins : List (Addr × Obj)) (s : Shared) (σ : St) (H : Hp) (Q : Bool → Hp → Prop),Inv X pins σ H s → t σ H Q → wpAny (model X.prog X.w) X.A (isTrue e X.env whole) (TP X pins σ Q) X.xe s
theorem PW.pt {X : Cx} {e : Expr} {t : TT} (h : PW X e t) : PT X e t := h _
def PA (X : Cx) (es : List Expr) (t : TA) : Prop :=
  ∀ (pos : Pos) (pins : List (Addr × Obj)) (s : Shared) (σ : St) (H : Hp) (Q : List V → Hp → Prop),Inv X pins σ H s → t σ H Q → wpAny (model X.prog X.w) X.A (spliced (backTo pos (starEach es X.env))) (AP X pins σ Q) X.xe s
def PS (X : Cx) (st : Stmt) (t : TS) : Prop :=
  ∀ (pins : List (Addr × Obj)) (s : Shared) (σ : St) (H : Hp) (D : Ends),Inv X pins σ H s → t D σ H → wpAny (model X.prog X.w) X.A (exec st X.env) (SP X pins D) X.xe s
def PSs (X : Cx) (st : List Stmt) (t : TS) : Prop :=
  ∀ (pins : List (Addr × Obj)) (s : Shared) (σ : St) (H : Hp) (D : Ends),Inv X pins σ H s → t D σ H → wpAny (model X.prog X.w) X.A (execs st X.env) (SP X pins D) X.xe s
theorem thn {α : Type} {t : Sem α} {Q Q' : α → Shared → Prop} {M : Model} {A : Around} {E : Value → Shared → Prop} {s : Shared} (h : wpAny M A t Q E s) (hQ : ∀ a s,Q a s → Q' a s) : wpAny M A t Q' E s := wpAny_mono h hQ fun _ _ x => x
end L2
namespace L2
open PySem PySem.Spec PyProof.Rows
section
variable {X : Cx}
def tVar (i : Nat) : TE := fun σ H Q => ∃ v,σ[i]? = some (some v) ∧ Q v H
def tC (v : V) : TE := fun _ H Q => Q v H
theorem pe_var {i : Nat} {x : Str} {pos : Pos} (hN : X.N[i]? = some x) (hv : Vis X.env.scope x) (hd : (x == ("__debug__" : Str)) = false := by decide) (hcd : (x == ("__classdict__" : Str)) = false := by decide) : PE X (.Name x pos) (tVar i) := by
  intro pins s σ H Q I h
  obtain ⟨v,e,h⟩ := h
  obtain ⟨m,hn,hl⟩ := I.loc
  obtain ⟨u,r,l⟩ := hl i x v hN e hv
  have fin : EP X pins σ Q u s := ⟨v,H,I,r,h⟩
  rcases l with ⟨hk,hm⟩ | ⟨hk,c,hc,hcell⟩
  · exact wpAny_Name (wpAny_loadName_local I.ok.kind hk hn hm fin) hd
  · rcases hk with hk | hk
    · exact wpAny_Name (wpAny_loadName_cell I.ok.kind hk hc hcell fin) hd
    · exact wpAny_Name (wpAny_loadName_free I.ok.kind hk hc hcell fin hcd) hd
theorem pe_int {i j pos} : PE X (.Constant (.int i) j pos) (tC (.int i)) := fun _ _ _ H _ I h => wpAny_Constant_int ⟨.int i,H,I.tok _,⟨_,rfl⟩,h⟩
theorem pe_bl {b j pos} : PE X (.Constant (.bool b) j pos) (tC (.bl b)) := fun _ _ _ H _ I h => Constant_bool ⟨.bl b,H,I,rfl,h⟩
theorem pe_non {j pos} : PE X (.Constant .none j pos) (tC .non) := fun _ _ _ H _ I h => Constant_none ⟨.non,H,I,rfl,h⟩
theorem pe_str {x j pos} : PE X (.Constant (.str x) j pos) (tC (.str x)) := fun _ _ _ H _ I h => Calls.Constant_str ⟨.str x,H,I.tok _,⟨_,rfl⟩,h⟩
def Gl (X : Cx) (x : Str) : Prop := X.env.kindOf x = some .globalImplicit
theorem ld_glob {E : Value → Shared → Prop} {pins : List (Addr × Obj)} {s : Shared} {σ : St} {H : Hp} {x : Str} {u : Value} {pos : Pos} {Q : Value → Shared → Prop} (I : Inv X pins σ H s) (hg : Gl X x) (hm : X.mg x = some u) (h : Q u s)
    (hd : (x == ("__debug__" : Str)) = false := by decide) : wpAny (model X.prog X.w) X.A (eval (.Name x pos) X.env) Q E s :=
  Calls.Name_function_global I.ok.kind hg (Calls.loadGlobal_global (by rw [I.ok.glob]; exact I.mod.glob.keeps I.bk) hm h) hd
theorem ld_blt {E : Value → Shared → Prop} {pins : List (Addr × Obj)} {s : Shared} {σ : St} {H : Hp} {x : Str} {u : Value} {pos : Pos} {Q : Value → Shared → Prop} (I : Inv X pins σ H s) (hg : Gl X x) (hm : X.mg x = none) (hv : bootBuiltins x = some u) (h : Q u s)
    (hn : x ≠ "__name__" := by decide) (hd : (x == ("__debug__" : Str)) = false := by decide) : wpAny (model X.prog X.w) X.A (eval (.Name x pos) X.env) Q E s := by
  obtain ⟨mb,h1,h2⟩ := I.mod.blt
  exact Calls.Name_function_global I.ok.kind hg (Calls.loadGlobal_builtin (by rw [I.ok.glob]; exact I.mod.glob.keeps I.bk) hm (by rw [I.ok.blt]; exact h1.keeps I.bk) ((h2 x hn).trans hv) h) hd
theorem pe_glob {x : Str} {v : V} {u : Value} {pos : Pos} (hg : Gl X x) (hm : X.mg x = some u) (r : RelV v u) (hd : (x == ("__debug__" : Str)) = false := by decide) : PE X (.Name x pos) (tC v) :=
  fun _ _ _ H _ I h => ld_glob I hg hm ⟨v,H,I,r,h⟩ hd
theorem pe_bltn {x : Str} {v : V} {u : Value} {pos : Pos} (hg : Gl X x) (hm : X.mg x = none) (hv : bootBuiltins x = some u) (r : RelV v u) (hn : x ≠ "__name__" := by decide) (hd : (x == ("__debug__" : Str)) = false := by decide) : PE X (.Name x pos) (tC v) :=
  fun _ _ _ H _ I h => ld_blt I hg hm hv ⟨v,H,I,r,h⟩ hn hd
variable {a b : Expr} {ta tb : TE} {pos : Pos}
def tB (t : TE) : TT := fun σ H Q => t σ H fun x H1 => ∃ c,x = .bl c ∧ Q c H1
theorem pt_val {e : Expr} {t : TE} (h : PE X e t) (he : ∀ whole,isTrue e X.env whole = (do let v ← whole; standAt e.pos; holding [v] (truthy v)) := by intro _; rfl) : PT X e (tB t) := by
  intro pins s σ H Q I hw
  refine isTrue_plain (thn (h pins s σ H _ I hw) fun v s1 ⟨x,H1,I1,r1,q1⟩ => ?_) (he _)
  obtain ⟨d,rfl,q⟩ := q1
  cases r1
  exact wpAny_truthy_bool ⟨H1,I1,q⟩
variable {tA tB' : TT} {rest : List Expr}
def tAnd (t u : TT) : TT := fun σ H Q => t σ H fun c H1 => if c = true then u σ H1 Q else Q false H1
def tOr (t u : TT) : TT := fun σ H Q => t σ H fun c H1 => if c = true then Q true H1 else u σ H1 Q
def tNot (t : TT) : TT := fun σ H Q => t σ H fun c H1 => Q (!c) H1
theorem pw_and1 (ha : PT X a tA) : PW X (.BoolOp .And [a] pos) tA := by
  intro wh pins s σ H Q I h
  refine isTrue_and (thn (ha pins s σ H Q I h) fun c s1 e => ?_)
  cases c with
  | true => exact isTrue_and_nil e
  | false => exact e
theorem pw_or1 (ha : PT X a tA) : PW X (.BoolOp .Or [a] pos) tA := by
  intro wh pins s σ H Q I h
  refine isTrue_or (thn (ha pins s σ H Q I h) fun c s1 e => ?_)
  cases c with
  | false => exact isTrue_or_nil e
  | true => exact e
theorem pw_and (ha : PT X a tA) (hb : PW X (.BoolOp .And (b :: rest) pos) tB') : PW X (.BoolOp .And (a :: b :: rest) pos) (tAnd tA tB') := by
  intro wh pins s σ H Q I h
  refine isTrue_and (thn (ha pins s σ H _ I h) fun c s1 ⟨H1,I1,q1⟩ => ?_)
  cases c with
  | true => exact hb wh pins s1 σ H1 Q I1 q1
  | false => exact ⟨H1,I1,q1⟩
theorem pw_or (ha : PT X a tA) (hb : PW X (.BoolOp .Or (b :: rest) pos) tB') : PW X (.BoolOp .Or (a :: b :: rest) pos) (tOr tA tB') := by
  intro wh pins s σ H Q I h
  refine isTrue_or (thn (ha pins s σ H _ I h) fun c s1 ⟨H1,I1,q1⟩ => ?_)
  cases c with
  | true => exact ⟨H1,I1,q1⟩
  | false => exact hb wh pins s1 σ H1 Q I1 q1
theorem pt_not (ha : PT X a tA) : PT X (.UnaryOp .Not a pos) (tNot tA) := by
  intro pins s σ H Q I h
  exact isTrue_not (ha pins s σ H (fun c H1 => Q (!c) H1) I h)
def tAndV (ta tb : TE) : TE := fun σ H Q => ta σ H fun x H1 => ∃ c,x = .bl c ∧ if c = true then tb σ H1 Q else Q (.bl false) H1
def tOrV (ta tb : TE) : TE := fun σ H Q => ta σ H fun x H1 => ∃ c,x = .bl c ∧ if c = true then Q (.bl true) H1 else tb σ H1 Q
def tNotV (ta : TE) : TE := fun σ H Q => ta σ H fun x H1 => ∃ c,x = .bl c ∧ Q (.bl (!c)) H1
theorem pe_one {op} {t : TE} (h : PE X a t) : PE X (.BoolOp op [a] pos) t := fun pins s σ H Q I hw => BoolOp_one (h pins s σ H Q I hw)
theorem pe_and (ha : PE X a ta) (hb : PE X (.BoolOp .And (b :: rest) pos) tb) : PE X (.BoolOp .And (a :: b :: rest) pos) (tAndV ta tb) := by
  intro pins s σ H Q I h
  refine BoolOp_and (thn (ha pins s σ H _ I h) fun v s1 ⟨x,H1,I1,r1,q1⟩ => ?_)
  obtain ⟨c,rfl,q1⟩ := q1
  cases r1
  refine wpAny_truthy_bool ?_
  cases c with
  | true => exact hb pins s1 σ H1 Q I1 q1
  | false => exact ⟨.bl false,H1,I1,rfl,q1⟩
theorem pe_or (ha : PE X a ta) (hb : PE X (.BoolOp .Or (b :: rest) pos) tb) : PE X (.BoolOp .Or (a :: b :: rest) pos) (tOrV ta tb) := by
  intro pins s σ H Q I h
  refine BoolOp_or (thn (ha pins s σ H _ I h) fun v s1 ⟨x,H1,I1,r1,q1⟩ => ?_)
  obtain ⟨c,rfl,q1⟩ := q1
  cases r1
  refine wpAny_truthy_bool ?_
  cases c with
  | false => exact hb pins s1 σ H1 Q I1 q1
  | true => exact ⟨.bl true,H1,I1,rfl,q1⟩
theorem pe_not (ha : PE X a ta) : PE X (.UnaryOp .Not a pos) (tNotV ta) := by
  intro pins s σ H Q I h
  refine UnaryOp_ (thn (ha pins s σ H _ I h) fun v s1 ⟨x,H1,I1,r1,q1⟩ => ?_)
  obtain ⟨c,rfl,q1⟩ := q1
  cases r1
  exact not_of (wpAny_truthy_bool ⟨.bl (!c),H1,I1,rfl,q1⟩)
def tIf (t : TT) (ta tb : TE) : TE := fun σ H Q => t σ H fun c H1 => if c = true then ta σ H1 Q else tb σ H1 Q
theorem pe_ifExp {c : Expr} (hc : PT X c tA) (ha : PE X a ta) (hb : PE X b tb) : PE X (.IfExp c a b pos) (tIf tA ta tb) := by
  intro pins s σ H Q I h
  refine wpAny_IfExp (thn (hc pins s σ H _ I h) fun d s1 ⟨H1,I1,q1⟩ => ?_)
  cases d with
  | true => exact ha pins s1 σ H1 Q I1 q1
  | false => exact hb pins s1 σ H1 Q I1 q1
end
end L2
namespace L2
open PySem PySem.Spec PyProof.Rows
def SqL (K : PySem.W.Frag) (H : Hp) (a : Addr) (xs : List V) : Prop :=
  Rd H a (.lst xs) ∨
    ∃ (o : Obj) (its : Array Value) (n : Nat),K.lookup a = some o ∧ o.cls = .type "list" ∧ o.dict = none ∧ o.data = .seq its n ∧ its.size ≤ sizeLine ∧ Vals xs its.toList
def SqT (K : PySem.W.Frag) (H : Hp) (a : Addr) (xs : List V) : Prop :=
  Rd H a (.tup xs) ∨
    ∃ (o : Obj) (its : Array Value) (n : Nat),K.lookup a = some o ∧ o.cls = .type "tuple" ∧ o.data = .seq its n ∧ its.size ≤ sizeLine ∧ Vals xs its.toList
def absV : Value → Option V
  | .none => some .non
  | .bool b => some (.bl b)
  | .int i _ => some (.int i)
  | .str x _ => some (.str x)
  | .bytes b _ => some (.byt b)
  | .float b _ => some (.flt b)
  | .ref a => some (.ref a)
  | .type n => some (.ty n)
  | _ => none
theorem RelV.abs {x : V} {u : Value} (r : RelV x u) : absV u = some x := by
  cases x with
  | non => cases r; rfl
  | bl _ => cases r; rfl
  | int _ => obtain ⟨t,rfl⟩ := r; rfl
  | str _ => obtain ⟨t,rfl⟩ := r; rfl
  | byt _ => obtain ⟨t,rfl⟩ := r; rfl
  | flt _ => obtain ⟨t,rfl⟩ := r; rfl
  | ref _ => cases r; rfl
  | ty _ => cases r; rfl
theorem RelV.inj {x y : V} {u : Value} (r : RelV x u) (q : RelV y u) : x = y := Option.some.inj (r.abs.symm.trans q.abs)
theorem Vals.inj : ∀ {xs ys : List V} {us : List Value},Vals xs us → Vals ys us → xs = ys
  | _,_,_,.nil,.nil => rfl
  | _,_,_,.cons r t,.cons r' t' => by rw [r.inj r',Vals.inj t t']
section
variable {X : Cx} {pins : List (Addr × Obj)} {σ : St} {H : Hp} {s : Shared} {a : Addr} {xs ys : List V}
theorem SqL.of {K : PySem.W.Frag} (h : H a = some (.lst xs)) : SqL K H a xs := .inl (.inl h)
theorem SqT.of {K : PySem.W.Frag} (h : H a = some (.tup xs)) : SqT K H a xs := .inl (.inl h)
theorem Inv.list (I : Inv X pins σ H s) (h : SqL X.K H a xs) : ∃ its : List Value,Vals xs its ∧ PlainL s.heap a its.toArray ∧ xs.length ≤ sizeLine := by
  rcases h with h | ⟨o,its,n,hk,hc,hd,hs,hz,r⟩
  · obtain ⟨z,its,n,r,e⟩ := h.ok I.hok
    exact ⟨its,r,⟨_,n,e,rfl,rfl,rfl⟩,z⟩
  · refine ⟨its.toList,r,⟨o,n,I.kIn a o hk,hc,hd,by simpa using hs⟩,?_⟩
    have e := r.length
    simp only [Array.length_toList] at e
    omega
theorem Inv.tuple (I : Inv X pins σ H s) (h : SqT X.K H a xs) : ∃ its : List Value,Vals xs its ∧ IsTup s.heap a its.toArray ∧ xs.length ≤ sizeLine := by
  rcases h with h | ⟨o,its,n,hk,hc,hs,hz,r⟩
  · obtain ⟨z,its,r,p⟩ := h.ok I.hok
    exact ⟨its,r,p,z⟩
  · refine ⟨its.toList,r,⟨o,I.kIn a o hk,hc,n,by simpa using hs⟩,?_⟩
    have e := r.length
    simp only [Array.length_toList] at e
    omega
theorem Inv.list_inj (I : Inv X pins σ H s) (h : SqL X.K H a xs) (h' : SqL X.K H a ys) : xs = ys := by
  obtain ⟨its,r,⟨o,n,e,_,_,d⟩,_⟩ := I.list h
  obtain ⟨its',r',⟨o',n',e',_,_,d'⟩,_⟩ := I.list h'
  rw [e] at e'; cases e'
  rw [d] at d'
  injection d' with d1 _
  have : its = its' := by simpa using congrArg Array.toList d1
  subst this
  exact r.inj r'
end
abbrev Cx.wish (X : Cx) (E : Value → Shared → Prop) : Cx := { X with xe := E }
abbrev Cx.nox (X : Cx) : Cx := X.wish fun _ _ => False
theorem Cx.Ok.wish {X : Cx} (ok : X.Ok) (E : Value → Shared → Prop) : (X.wish E).Ok :=
  ⟨ok.mod,ok.kind,ok.glob,ok.blt,ok.above,ok.inj,ok.has,ok.cab,ok.hd,ok.frames,ok.stk,ok.exf,ok.bs,ok.bsz,ok.noex,ok.exfs,ok.funs,ok.frf⟩
theorem Cx.Ok.unwish {X : Cx} {E : Value → Shared → Prop} (ok : (X.wish E).Ok) : X.Ok :=
  ⟨ok.mod,ok.kind,ok.glob,ok.blt,ok.above,ok.inj,ok.has,ok.cab,ok.hd,ok.frames,ok.stk,ok.exf,ok.bs,ok.bsz,ok.noex,ok.exfs,ok.funs,ok.frf⟩
section
variable {X : Cx} {pins : List (Addr × Obj)} {σ : St} {H : Hp} {s : Shared} {E : Value → Shared → Prop}
theorem Inv.wish (I : Inv X pins σ H s) (E : Value → Shared → Prop) : Inv (X.wish E) pins σ H s := ⟨I.ok.wish E,I.os,I.bare,I.base,I.loc,I.cell,I.free,I.freeC,I.pin,I.hok,I.len⟩
theorem Inv.unwish (I : Inv (X.wish E) pins σ H s) : Inv X pins σ H s := ⟨I.ok.unwish,I.os,I.bare,I.base,I.loc,I.cell,I.free,I.freeC,I.pin,I.hok,I.len⟩
theorem SP.unwish {D : Ends} {f : Flow} {s' : Shared} (h : SP (X.wish E) pins D f s') : SP X pins D f s' := by
  cases f with
  | next => obtain ⟨σ',H',I,q⟩ := h; exact ⟨σ',H',I.unwish,q⟩
  | brk => obtain ⟨σ',H',I,q⟩ := h; exact ⟨σ',H',I.unwish,q⟩
  | cont => obtain ⟨σ',H',I,q⟩ := h; exact ⟨σ',H',I.unwish,q⟩
  | ret u => obtain ⟨v,σ',H',I,r,q⟩ := h; exact ⟨v,σ',H',I.unwish,r,q⟩
theorem PSs.nox {st : List Stmt} {t : TS} (h : PSs X.nox st t) : PSs X st t := fun pins s σ H D I hw =>
  wpAny_mono (h pins s σ H D (I.wish _) hw) (fun _ _ q => q.unwish) fun _ _ z => False.elim z
end
section
variable {X : Cx} {st : Stmt} {rest : List Stmt} {t u : TS} {e : Expr} {te : TE} {pos : Pos}
def tNext : TS := fun D σ H => D.nx σ H
def tSeq (t u : TS) : TS := fun D σ H => t { D with nx := u D } σ H
theorem pss_nil : PSs X [] tNext := fun _ _ σ H _ I h => wpAny_execs_nil ⟨σ,H,I,h⟩
theorem pss_cons (h1 : PS X st t) (h2 : PSs X rest u) : PSs X (st :: rest) (tSeq t u) := by
  intro pins s σ H D I h
  refine wpAny_execs_cons (thn (h1 pins s σ H { D with nx := u D } I h) fun f s1 q => ?_)
  cases f with
  | next =>
    obtain ⟨σ',H',I',q⟩ := q
    exact h2 pins s1 σ' H' D I' q
  | ret v => exact q
  | brk => exact q
  | cont => exact q
theorem pss_one (h1 : PS X st t) : PSs X [st] t := by
  intro pins s σ H D I h
  refine wpAny_execs_cons (thn (h1 pins s σ H D I h) fun f s1 q => ?_)
  cases f with
  | next => exact wpAny_execs_nil q
  | ret v => exact q
  | brk => exact q
  | cont => exact q
theorem Inv.quiet {pins : List (Addr × Obj)} {σ : St} {H : Hp} {s : Shared} (I : Inv X pins σ H s) : interactive X.env = false := by simp [interactive,I.ok.kind]
def tDrop (te : TE) : TS := fun D σ H => te σ H fun _ H1 => D.nx σ H1
theorem ps_expr (he : PE X e te) (hs : swapsWith e none pos.line X.env = pure false := by rfl) : PS X (.Expr e pos) (tDrop te) := by
  intro pins s σ H D I h
  exact wpAny_Expr_any (thn (he pins s σ H _ I h) fun v s1 ⟨x,H1,I1,r1,q1⟩ => ⟨σ,H1,I1,q1⟩) I.quiet hs
def tRet (te : TE) : TS := fun D σ H => te σ H D.rt
theorem ps_ret (he : PE X e te) : PS X (.Return (some e) pos) (tRet te) := by
  intro pins s σ H D I h
  exact wpAny_Return_some (thn (he pins s σ H _ I h) fun v s1 ⟨x,H1,I1,r1,q1⟩ => ⟨x,σ,H1,I1,r1,q1⟩)
def tIfS (c : TT) (t u : TS) : TS := fun D σ H => c σ H fun b H1 => if b = true then t D σ H1 else u D σ H1
theorem ps_if {c : Expr} {a b : List Stmt} {tc : TT} (hc : PT X c tc) (ha : PSs X a t) (hb : PSs X b u) : PS X (.If c a b pos) (tIfS tc t u) := by
  intro pins s σ H D I h
  refine wpAny_If (thn (hc pins s σ H _ I h) fun d s1 ⟨H1,I1,q1⟩ => ?_)
  cases d with
  | true => exact ha pins s1 σ H1 D I1 q1
  | false => exact hb pins s1 σ H1 D I1 q1
end
abbrev TG := V → St → Hp → (St → Hp → Prop) → Prop
abbrev TGs := List V → St → Hp → (St → Hp → Prop) → Prop
def PG (X : Cx) (target : Expr) (t : TG) : Prop :=
  ∀ (pins : List (Addr × Obj)) (s : Shared) (σ : St) (H : Hp) (v : V) (u : Value) (Q : St → Hp → Prop),Inv X pins σ H s → RelV v u → t v σ H Q →
    wpAny (model X.prog X.w) X.A (assign target X.env u) (fun _ s' => ∃ σ' H',Inv X pins σ' H' s' ∧ Q σ' H') X.xe s
def PGs (X : Cx) (ts : List Expr) (t : TGs) : Prop :=
  ∀ (pins : List (Addr × Obj)) (s : Shared) (σ : St) (H : Hp) (vs : List V) (us : List Value) (Q : St → Hp → Prop),Inv X pins σ H s → Vals vs us → t vs σ H Q →
    wpAny (model X.prog X.w) X.A (assignInOrder ((assignEach ts X.env).map (·.2)) us) (fun _ s' => ∃ σ' H',Inv X pins σ' H' s' ∧ Q σ' H') X.xe s
abbrev TSet := V → V → V → Hp → (Hp → Prop) → Prop
def PSet (X : Cx) (t : TSet) : Prop :=
  ∀ (pins : List (Addr × Obj)) (s : Shared) (σ : St) (H : Hp) (o i v : V) (ov iv u : Value) (Q : Hp → Prop),Inv X pins σ H s → RelV o ov → RelV i iv → RelV v u → t o i v H Q →
    wpAny (model X.prog X.w) X.A (setItem ov iv u) (fun _ s' => ∃ H',Inv X pins σ H' s' ∧ Q H') X.xe s
section
variable {X : Cx} {pos : Pos}
def gName (i : Nat) : TG := fun v σ H Q => Q (σ.set i (some v)) H
theorem pg_name {i : Nat} {x : Str} (hN : X.N.Nodup) (hi : X.N[i]? = some x) (hx : Loc X.env.scope x) (hf : X.fn x = true ∨ X.env.scope.names.lookup x = some .local := by first | exact .inl rfl | exact .inr rfl | assumption) : PG X (.Name x pos) (gName i) := by
  intro pins s σ H v u Q I r h
  exact wpAny_assign_Name (store_ok I hN hi hx r (fun s' I' => ⟨_,H,I',h⟩) hf)
def gNil : TGs := fun vs σ H Q => vs = [] ∧ Q σ H
def gCons (t : TG) (u : TGs) : TGs := fun vs σ H Q => ∃ v r,vs = v :: r ∧ t v σ H fun σ' H' => u r σ' H' Q
theorem pgs_nil : PGs X [] gNil := by
  intro pins s σ H vs us Q I r h
  obtain ⟨e,h⟩ := h
  subst e
  cases r
  exact assignInOrder_nil ⟨σ,H,I,h⟩
theorem pgs_cons {e : Expr} {es : List Expr} {t : TG} {u : TGs} (h1 : PG X e t) (h2 : PGs X es u)
    (hs : (assignEach (e :: es) X.env).map (·.2) = assign e X.env :: (assignEach es X.env).map (·.2) := by rfl) : PGs X (e :: es) (gCons t u) := by
  intro pins s σ H vs us Q I r h
  obtain ⟨v,vr,e1,h⟩ := h
  subst e1
  cases r with
  | cons r rr =>
    rw [hs]
    refine assignInOrder_cons (thn (h1 pins s σ H _ _ _ I r h) fun _ s1 ⟨σ1,H1,I1,q1⟩ => ?_)
    exact h2 pins s1 σ1 H1 _ _ Q I1 rr q1
def gTup (K : PySem.W.Frag) (n : Nat) (t : TGs) : TG := fun v σ H Q => ∃ a xs,v = .ref a ∧ SqT K H a xs ∧ xs.length = n ∧ t xs σ H Q
theorem pg_tup {es : List Expr} {k : Nat} {t : TGs} {n : Nat} (hc : X.calm = true) (h : PGs X es t)
    (hn : (assignEach es X.env).length = n := by rfl) (hst : (assignEach es X.env).findIdx? (·.1) = none := by rfl) : PG X (.Tuple es k pos) (gTup X.K n t) := by
  intro pins s σ H v u Q I r hw
  obtain ⟨a,xs,e1,hq,hl,hw⟩ := hw
  subst e1
  cases r
  obtain ⟨its,rv,ht,hz⟩ := I.tuple hq
  refine assign_Tuple_tuple (I.ok.hd hc) ht (by simp [hn,← hl,rv.length]) hst fun h' hx => ?_
  have I1 : Inv X pins σ H { s with heap := h' } := I.kept (t' := s.toks) fun b o e => hx b o (Nat.ne_of_lt (Heap.lt_size e)) e
  exact h pins _ σ H xs _ Q I1 (by simpa using rv) hw
def gSub (to ti : TE) (t : TSet) : TG := fun v σ H Q => to σ H fun o H1 => ti σ H1 fun i H2 => t o i v H2 fun H3 => Q σ H3
theorem pg_sub {o i : Expr} {to ti : TE} {t : TSet} (ho : PE X o to) (hi : PE X i ti) (hs : PSet X t)
    (ha : ∀ v,assign (.Subscript o i pos) X.env v = (do
      let ov ← holding [v] (eval o X.env)
      let iv ← holding [v,ov] (eval i X.env)
      standAt pos
      holding [v,ov,iv] (setItem ov iv v)
      release [v,ov,iv] []) := by intro _; rfl) : PG X (.Subscript o i pos) (gSub to ti t) := by
  intro pins s σ H v u Q I r h
  rw [ha]
  refine wpAny_bind (wpAny_holding (thn (ho pins s σ H _ I h) fun ov s1 ⟨x,H1,I1,r1,q1⟩ => ?_))
  refine wpAny_bind (wpAny_holding (thn (hi pins s1 σ H1 _ I1 q1) fun iv s2 ⟨y,H2,I2,r2,q2⟩ => ?_))
  refine wpAny_bind (wpAny_standAt (wpAny_bind (wpAny_holding (thn (hs pins s2 σ H2 x y v ov iv u _ I2 r1 r2 r q2) fun _ s3 ⟨H3,I3,q3⟩ => ?_))))
  exact wpAny_release ⟨σ,H3,I3,q3⟩
def tAsg (te : TE) (g : TG) : TS := fun D σ H => te σ H fun x H1 => g x σ H1 D.nx
theorem ps_asg {tg e : Expr} {te : TE} {g : TG} (he : PE X e te) (hg : PG X tg g) (hs : swapsWithSole [tg] e pos.line X.env = pure false := by rfl) (hw : swappedStores [tg] e X.env = pure none := by rfl)
    (h1 : (assignEach [tg] X.env).map (·.2) = [assign tg X.env] := by rfl) : PS X (.Assign [tg] e pos) (tAsg te g) := by
  intro pins s σ H D I h
  refine wpAny_Assign_stores (thn (he pins s σ H _ I h) fun v s1 ⟨x,H1,I1,r1,q1⟩ => ?_) hs hw
  rw [h1]
  exact thn (hg pins s1 σ H1 x v _ I1 r1 q1) fun _ s2 q => q
theorem ps_set {i : Nat} {x : Str} {e : Expr} {te : TE} {pos' : Pos} (hN : X.N.Nodup) (hi : X.N[i]? = some x) (hx : Loc X.env.scope x) (he : PE X e te) (hs : swapsWith e (some (.Name x pos')) pos.line X.env = pure false := by rfl) (hf : X.fn x = true ∨ X.env.scope.names.lookup x = some .local := by first | exact .inl rfl | exact .inr rfl | assumption) :
    PS X (.Assign [.Name x pos'] e pos) (tAsg te (gName i)) := by
  intro pins s σ H D I h
  refine wpAny_Assign_Name (thn (he pins s σ H _ I h) fun v s1 ⟨y,H1,I1,r1,q1⟩ => ?_) hs
  exact store_ok I1 hN hi hx r1 (fun s2 I2 => ⟨_,H1,I2,q1⟩) hf
def tPar (i j : Nat) (ta : TA) : TS := fun D σ H => ta σ H fun vs H1 => ∃ v w,vs = [v,w] ∧ D.nx ((σ.set i (some v)).set j (some w)) H1
theorem ps_par {i j : Nat} {x y : Str} {a b : Expr} {ta : TA} {px py pt : Pos} {kt k2 pt2} (hc : X.calm = true) (hN : X.N.Nodup) (hi : X.N[i]? = some x) (hj : X.N[j]? = some y) (hij : i ≠ j)
    (hx : X.env.scope.names.lookup x = some .local) (hy : X.env.scope.names.lookup y = some .local) (ha : PA X [a,b] ta)
    (hw : swappedStores [.Tuple [.Name x px,.Name y py] kt pt] (.Tuple [a,b] k2 pt2) X.env = pure (some [x,y]))
    (hs : swapsWithSole [.Tuple [.Name x px,.Name y py] kt pt] (.Tuple [a,b] k2 pt2) pos.line X.env = pure false := by rfl) :
    PS X (.Assign [.Tuple [.Name x px,.Name y py] kt pt] (.Tuple [a,b] k2 pt2) pos) (tPar i j ta) := by
  intro pins s σ H D I h
  rw [exec_Assign_arm]
  refine wpAny_bind (wpAny_standAt ?_)
  rw [hs]
  refine wpAny_bind (wpAny_pure ?_)
  rw [if_neg (by decide)]
  refine wpAny_bind (Tuple_ (thn (ha _ pins s σ H _ I h) fun us s1 ⟨vs,H1,I1,r1,q1⟩ => ?_))
  obtain ⟨v,w,e1,q1⟩ := q1
  subst e1
  obtain ⟨u1,u2,rfl,rv,rw'⟩ : ∃ u1 u2,us = [u1,u2] ∧ RelV v u1 ∧ RelV w u2 := by
    cases r1 with
    | cons p q =>
      cases q with
      | cons p' q' =>
        cases q'
        exact ⟨_,_,rfl,p,p'⟩
  refine wpAny_newObj_type ?_ (by show 2 ≤ sizeLine; decide)
  have I2 : Inv X pins σ H1 { s1 with heap := s1.heap.push { cls := .type "tuple",data := .seq [u1,u2].toArray } } := I1.kept (t' := s1.toks) fun b o e => Heap.get?_push_of_some _ e
  rw [hw]
  refine wpAny_bind (wpAny_pure ?_)
  show wpAny (model X.prog X.w) X.A (do rule "assign.swapped-stores"; let items ← unpackItems (.ref s1.heap.objs.size) 2 none; assignInOrder [fun v => bindName X.env y v,fun v => bindName X.env x v] items.reverse; pure Flow.next) _ _ _
  refine wpAny_bind (wpAny_rule (wpAny_bind (unpackItems_tuple (items := #[u1,u2]) (I.ok.hd hc) (IsTup.new s1.heap _) fun h' hx' => ?_)))
  have I3 := I2.kept (h' := h') (t' := s1.toks) fun b o e => hx' b o (Nat.ne_of_lt (Heap.lt_size e)) e
  show wpAny _ _ (assignInOrder [fun v => bindName X.env y v,fun v => bindName X.env x v] [u2,u1] >>= fun _ => pure Flow.next) _ _ _
  refine wpAny_bind (assignInOrder_cons (wpAny_bindName (store_ok I3 hN hj (.inl hy) rw' (fun s2 I4 => ?_) (.inr hy))))
  refine assignInOrder_cons (wpAny_bindName (store_ok I4 hN hi (.inl hx) rv (fun s3 I5 => assignInOrder_nil (wpAny_pure ?_)) (.inr hx)))
  rw [List.set_comm _ _ (Ne.symm hij)] at I5
  exact ⟨_,H1,I5,q1⟩
end
section
variable {X : Cx} {pos : Pos}
def tWhile (c : TT) (tb : TS) : TS := fun D σ H => ∃ W : Nat → St → Hp → Prop,(∃ m,W m σ H) ∧ ∀ m σ H,W m σ H →
  c σ H fun b H1 => if b = true then ∃ N : St → Hp → Prop,(∀ σ' H',N σ' H' → ∃ m',m' < m ∧ W m' σ' H') ∧ tb { D with nx := N,ct := N,bk := D.nx } σ H1 else D.nx σ H1
theorem ps_while {c : Expr} {body : List Stmt} {tc : TT} {tb : TS} (hp : PassesOwn (model X.prog X.w) X.A X.env X.xe) (hc : PT X c tc) (hb : PSs X body tb) : PS X (.While c body [] pos) (tWhile tc tb) := by
  intro pins s σ H D I h
  obtain ⟨W,⟨m0,w0⟩,turn⟩ := h
  refine wpAny_While (codeAny_whileLoop (fun n s' => ∃ σ' H',Inv X pins σ' H' s' ∧ W n σ' H') ?_ m0 ⟨σ,H,I,w0⟩)
  rintro n s1 ⟨σ1,H1,I1,w1⟩
  refine wpAny_passesOwn hp (thn (hc pins s1 σ1 H1 _ I1 (turn n σ1 H1 w1)) fun b s2 ⟨H2,I2,q2⟩ => ?_)
  cases b with
  | true =>
    obtain ⟨N,hN,q2⟩ := q2
    rw [if_pos rfl]
    refine wpAny_passesOwn hp (thn (hb pins s2 σ1 H2 _ I2 q2) fun f s3 q3 => ?_)
    cases f with
    | next =>
      obtain ⟨σ3,H3,I3,n3⟩ := q3
      obtain ⟨m',hm,w3⟩ := hN σ3 H3 n3
      exact ⟨m',hm,σ3,H3,I3,w3⟩
    | cont =>
      obtain ⟨σ3,H3,I3,n3⟩ := q3
      obtain ⟨m',hm,w3⟩ := hN σ3 H3 n3
      exact ⟨m',hm,σ3,H3,I3,w3⟩
    | brk => exact q3
    | ret v => exact q3
  | false =>
    rw [if_neg Bool.false_ne_true]
    exact wpAny_execs_nil ⟨σ1,H2,I2,q2⟩
end
structure It where
  go : Nat → Hp → Prop
  yld : Nat → Hp → V → Hp → Prop
  stop : Nat → Hp → Prop
def FpOk (X : Cx) (pins : List (Addr × Obj)) (H : Hp) (b : Addr) : Prop :=
  H b = none ∧ b ≠ X.env.locals ∧ b ∉ X.fs ∧ (b ∈ X.ex ∨ X.s₀.heap.objs.size ≤ b) ∧ (∀ x c,X.env.cells.lookup x = some c → c ≠ b) ∧ ∀ p ∈ X.pn ++ pins,p.1 ≠ b
theorem Inv.fpOk {X : Cx} {pins : List (Addr × Obj)} {σ : St} {H H' : Hp} {s : Shared} {b : Addr} (I : Inv X pins σ H s) (hb : s.heap.objs.size ≤ b) (hn : H' b = none) : FpOk X pins H' b := by
  refine ⟨hn,Nat.ne_of_gt (Nat.lt_of_lt_of_le I.lt hb),I.nofs hb,.inr (Nat.le_trans I.sz hb),fun x c e z => ?_,fun p hp z => ?_⟩
  · obtain ⟨v,q⟩ := I.cell x c e
    exact absurd (Nat.lt_of_lt_of_le q.lt (by rw [z]; exact hb)) (Nat.lt_irrefl _)
  · exact absurd (Nat.lt_of_lt_of_le (Heap.lt_size (I.pin p hp).1) (by rw [z]; exact hb)) (Nat.lt_irrefl _)
structure Turn (P : Program) (w : World) (K : PySem.W.Frag) (tg : Expr) (J : It) (fp : List Addr) (it : Addr) (tn : Nat → Heap → Prop) : Prop where
  mem : it ∈ fp
  obj : ∀ i h,tn i h → ∀ b ∈ fp,∃ o,h.get? b = some o ∧ ∀ v,o.data ≠ .cell v
  keep : ∀ i h h',tn i h → (∀ b ∈ fp,∀ o,h.get? b = some o → h'.get? b = some o) → tn i h'
  item : ∀ (X : Cx),X.prog = P → X.w = w → X.K = K → X.calm = true → ∀ (i : Nat) (pins : List (Addr × Obj)) (s : Shared) (σ : St) (H : Hp) (E : Value → Shared → Prop),Inv X pins σ H s → (∀ b ∈ fp,FpOk X pins H b) → tn i s.heap → J.go i H →
    wpAny (model P w) X.A (pyNext (.ref it)) (fun r s1 => ∃ u,r = some u ∧
      wpAny (model P w) X.A (letOwnedTupleGo tg (.ref it) u) (fun _ s2 => ∃ x H',Inv X pins σ H' s2 ∧ RelV x u ∧ J.yld i H x H' ∧ tn (i + 1) s2.heap ∧ ∀ b ∈ fp,H' b = none) E s1) E s
  done : ∀ (X : Cx),X.prog = P → X.w = w → X.K = K → X.calm = true → ∀ (i : Nat) (pins : List (Addr × Obj)) (s : Shared) (σ : St) (H : Hp) (E : Value → Shared → Prop),Inv X pins σ H s → (∀ b ∈ fp,FpOk X pins H b) → tn i s.heap → J.stop i H →
    wpAny (model P w) X.A (pyNext (.ref it)) (fun r s1 => r = none ∧ Inv X pins σ H s1) E s
  self : ∀ (A : Around) (i : Nat) (s : Shared) (Q : Value → Shared → Prop) (E : Value → Shared → Prop),tn i s.heap → Q (.ref it) s → wpAny (model P w) A (pyIter (.ref it)) Q E s
abbrev TI := St → Hp → (It → Hp → Prop) → Prop
def PIE (X : Cx) (pins : List (Addr × Obj)) (σ : St) (tg : Expr) (R : It → Hp → Prop) (itv : Value) (s2 : Shared) : Prop :=
  ∃ (it : Addr) (fp : List Addr) (tn : Nat → Heap → Prop) (J : It) (H' : Hp),itv = .ref it ∧ Inv X pins σ H' s2 ∧ Turn X.prog X.w X.K tg J fp it tn ∧ tn 0 s2.heap ∧ (∀ b ∈ fp,FpOk X pins H' b) ∧ R J H'
def PI (X : Cx) (tg iter : Expr) (wi : TI) : Prop :=
  ∀ (pins : List (Addr × Obj)) (s : Shared) (σ : St) (H : Hp) (R : It → Hp → Prop),Inv X pins σ H s → wi σ H R →
    wpAny (model X.prog X.w) X.A (eval iter X.env) (fun v s1 => wpAny (model X.prog X.w) X.A (pyIter v) (PIE X pins σ tg R) X.xe s1) X.xe s
theorem go_of {M : Model} {A : Around} {E : Value → Shared → Prop} {s : Shared} {tg : Expr} {it : Addr} {u : Value} {o : Obj} {n : String} {vs : Array Value} {Q : Unit → Shared → Prop} (ho : s.heap.get? it = some o) (hc : o.cls = .type n) (hd : o.data = .fields vs)
    (hn : ["enumerate","zip","dict_itemiterator","dict_reverseitemiterator","odict_iterator","itertools.zip_longest","itertools.pairwise"].contains n = false) (hQ : Q () s) : wpAny M A (letOwnedTupleGo tg (.ref it) u) Q E s := by
  unfold letOwnedTupleGo
  cases tg <;> first
    | exact wpAny_pure hQ
    | (cases u <;> first
        | exact wpAny_pure hQ
        | (refine wpAny_bind (wpAny_load ho ?_)
           rw [hc,hd]
           show wpAny M A (if (["enumerate","zip","dict_itemiterator","dict_reverseitemiterator","odict_iterator","itertools.zip_longest","itertools.pairwise"].contains n && vs[0]? == some (rawInt _)) = true then _ else _) Q E s
           rw [if_neg (by intro h; rw [hn,Bool.false_and] at h; cases h)]
           exact wpAny_pure hQ))
def Itl (K : PySem.W.Frag) (a : Addr) : It :=
  ⟨fun i H => ∃ xs x,SqL K H a xs ∧ xs[i]? = some x,fun i H x H' => H' = H ∧ ∀ xs,SqL K H a xs → xs[i]? = some x,fun i H => ∃ xs,SqL K H a xs ∧ xs.length ≤ i⟩
def Itr (lo : Int) (n : Nat) : It := ⟨fun i _ => i < n,fun i H x H' => H' = H ∧ x = .int (lo + i),fun i _ => n ≤ i⟩
theorem turn_list {P : Program} {w : World} {K : PySem.W.Frag} {tg : Expr} (a it : Addr) : Turn P w K tg (Itl K a) [it] it (fun i h => h.IsListIter it a i) where
  mem := by simp
  obj := fun i h st b hb => by
    have e : b = it := by simpa using hb
    subst e
    obtain ⟨o,e,c,d⟩ := st
    exact ⟨o,e,fun v z => by rw [d] at z; cases z⟩
  keep := fun i h h' st k => st.at fun o e => k it (by simp) o e
  item := by
    intro X hP hw hK hc i pins s σ H E I hf st hg
    subst hP hw hK
    obtain ⟨xs,x,hq,hx⟩ := hg
    obtain ⟨its,rv,p,hz⟩ := I.list hq
    obtain ⟨u,hu,ru⟩ := rv.get hx
    obtain ⟨f0,f1,f2,f3,f4,f5⟩ := hf it (by simp)
    refine wpAny_pyNext_list_item st p.isList (x := u) (by simpa using hu) fun h' st' sb => ?_
    have I1 : Inv X pins σ H { s with heap := h' } := I.turned (t' := s.toks) (fun b o hb e => (sb.2 b hb).trans e) f0 f1 f3 f4 f5
    obtain ⟨o,e,c,d⟩ := id st'
    exact ⟨u,rfl,go_of (s := { s with heap := h' }) e c d (by decide) ⟨x,H,I1,ru,⟨rfl,fun ys hy => by rw [I.list_inj hy hq]; exact hx⟩,st',fun b hb => (hf b hb).1⟩⟩
  done := by
    intro X hP hw hK hc i pins s σ H E I hf st hg
    subst hP hw hK
    obtain ⟨xs,hq,hx⟩ := hg
    obtain ⟨its,rv,p,hz⟩ := I.list hq
    obtain ⟨f0,f1,f2,f3,f4,f5⟩ := hf it (by simp)
    have hl := rv.length
    exact wpAny_pyNext_list_end (I.ok.hd hc) st p.isList (by simp; omega) fun h' eb => ⟨rfl,I.turned (t' := s.toks) (fun b o hb e => eb b o hb e) f0 f1 f3 f4 f5⟩
  self := fun _ _ _ _ _ st h => wpAny_pyIter_listiter st h
theorem turn_range {P : Program} {w : World} {K : PySem.W.Frag} {tg : Expr} (it : Addr) (lo : Int) (n : Nat) : Turn P w K tg (Itr lo n) [it] it (fun i h => IsRangeIter h it (lo + (i : Nat) * 1) ((n : Int) - (i : Nat)) 1) where
  mem := by simp
  obj := fun i h st b hb => by
    have e : b = it := by simpa using hb
    subst e
    exact ⟨_,st,fun v z => by
      have z' : Data.fields _ = Data.cell v := z
      cases z'⟩
  keep := fun i h h' st k => k it (by simp) _ st
  item := by
    intro X hP hw hK hc i pins s σ H E I hf st hg
    subst hP hw hK
    obtain ⟨f0,f1,f2,f3,f4,f5⟩ := hf it (by simp)
    have W := Walks.range (prog := X.prog) (w := X.w) (I.ok.hd hc) it lo 1 n
    refine W.item i s _ _ hg st fun v h' tk hv st' kk => ?_
    obtain ⟨t,rfl⟩ := hv
    have I1 : Inv X pins σ H { s with heap := h',toks := tk } := I.turned (fun b o hb e => kk b o (by simpa using hb) e) f0 f1 f3 f4 f5
    refine ⟨_,rfl,go_of (s := { s with heap := h',toks := tk }) (n := "range_iterator") st' rfl rfl (by decide) ⟨.int (lo + i),H,I1,⟨t,?_⟩,⟨rfl,rfl⟩,st',fun b hb => (hf b hb).1⟩⟩
    rw [Int.mul_one]
  done := by
    intro X hP hw hK hc i pins s σ H E I hf st hg
    subst hP hw hK
    obtain ⟨f0,f1,f2,f3,f4,f5⟩ := hf it (by simp)
    exact wpAny_pyNext_range_end (I.ok.hd hc) st (by have : n ≤ i := hg; omega) fun h' eb => ⟨rfl,I.turned (t' := s.toks) (fun b o hb e => eb b o hb e) f0 f1 f3 f4 f5⟩
  self := fun _ _ _ _ _ st h => wpAny_pyIter_rangeiter st h
end L2
namespace L2
open PySem PySem.Spec PyProof.Rows
section
variable {X : Cx} {tg : Expr}
def iList (K : PySem.W.Frag) (tl : TE) : TI := fun σ H R => tl σ H fun x H1 => ∃ a,x = .ref a ∧ (∃ xs,SqL K H1 a xs) ∧ R (Itl K a) H1
theorem pi_list {l : Expr} {tl : TE} (hl : PE X l tl) : PI X tg l (iList X.K tl) := by
  intro pins s σ H R I h
  refine thn (hl pins s σ H _ I h) fun v s1 ⟨x,H1,I1,r1,q1⟩ => ?_
  obtain ⟨a,e,⟨xs,hq⟩,q⟩ := q1
  subst e
  cases r1
  obtain ⟨its,rv,p,hz⟩ := I1.list hq
  refine wpAny_pyIter_list p.isList ?_
  refine ⟨s1.heap.objs.size,[s1.heap.objs.size],_,_,H1,rfl,I1.kept (t' := s1.toks) fun b o e => Heap.get?_push_of_some _ e,turn_list a _,⟨_,Heap.get?_push_size _ rfl,rfl,rfl⟩,fun b hb => ?_,q⟩
  have e : b = s1.heap.objs.size := by simpa using hb
  subst e
  exact I1.fpOk (Nat.le_refl _) (I1.hok.fresh (Nat.le_refl _))
theorem range_it {pins : List (Addr × Obj)} {σ : St} {H : Hp} {s : Shared} {R : It → Hp → Prop} {E : Value → Shared → Prop} {lo hi : Int} {t u v : Tok} {tk : Nat} (I : Inv X pins σ H s) (h1 : -(2 ^ 62) ≤ lo) (h2 : lo < 2 ^ 62) (h3 : -(2 ^ 62) ≤ hi) (h4 : hi < 2 ^ 62)
    (q : R (Itr lo (hi - lo).toNat) H) : wpAny (model X.prog X.w) X.A (pyIter (.ref s.heap.objs.size)) (PIE X pins σ tg R) E { s with heap := s.heap.push { cls := .type "range",data := .fields #[.int lo t,.int hi u,.int 1 v] },toks := tk } := by
  refine wpAny_pyIter_range (IsRange.new ..) (small_one h1 h2 h3 h4) ?_
  have I1 : Inv X pins σ H { s with heap := s.heap.push { cls := .type "range",data := .fields #[.int lo t,.int hi u,.int 1 v] },toks := tk } := I.kept fun b o e => Heap.get?_push_of_some _ e
  refine ⟨(s.heap.push { cls := .type "range",data := .fields #[.int lo t,.int hi u,.int 1 v] }).objs.size,[(s.heap.push { cls := .type "range",data := .fields #[.int lo t,.int hi u,.int 1 v] }).objs.size],_,_,H,rfl,
    I1.kept (t' := tk) fun b o e => Heap.get?_push_of_some _ e,turn_range _ lo (hi - lo).toNat,?_,fun b hb => ?_,q⟩
  · have e1 : lo + ((0 : Nat) : Int) * 1 = lo := by simp
    have e2 : (((hi - lo).toNat : Nat) : Int) - ((0 : Nat) : Int) = Builtin.Range.rangeSize lo hi 1 := by rw [rangeSize_one]; split <;> omega
    show IsRangeIter _ _ (lo + ((0 : Nat) : Int) * 1) ((((hi - lo).toNat : Nat) : Int) - ((0 : Nat) : Int)) 1
    rw [e1,e2]
    exact Heap.get?_push_size _ rfl
  · have e : b = (s.heap.push { cls := .type "range",data := .fields #[.int lo t,.int hi u,.int 1 v] }).objs.size := by simpa using hb
    subst e
    exact I1.fpOk (Nat.le_refl _) (I1.hok.fresh (Nat.le_refl _))
def iRng1 (ta : TA) : TI := fun σ H R => ta σ H fun vs H1 => ∃ j : Int,vs = [.int j] ∧ -(2 ^ 62) ≤ j ∧ j < 2 ^ 62 ∧ R (Itr 0 j.toNat) H1
theorem pi_range1 {a : Expr} {ta : TA} {p pos : Pos} (hg : Gl X "range") (hm : X.mg "range" = none) (ha : PA X [a] ta) (hs : starEach [a] X.env = [(false,eval a X.env)] := by rfl) : PI X tg (.Call (.Name "range" p) [a] [] pos) (iRng1 ta) := by
  intro pins s σ H R I h
  refine Call_ (ld_blt I hg hm boot_range (PyProof.Rows.callWith_type1 (thn (ha pos pins s σ H _ I h) fun us s1 ⟨vs,H1,I1,r1,q1⟩ => ?_) hs rfl))
  obtain ⟨j,e,q1,q2,q⟩ := q1
  subst e
  cases r1 with
  | cons r rr =>
    cases rr
    obtain ⟨t,rfl⟩ := r
    exact call_range_1 (range_it I1 (by omega) (by omega) q1 q2 (by simpa using q))
def tFor (wi : TI) (g : TG) (tb : TS) : TS := fun D σ H => wi σ H fun J H1 => ∃ W : Nat → Nat → St → Hp → Prop,(∃ m,W 0 m σ H1) ∧ ∀ i m σ H,W i m σ H →
  (J.stop i H ∧ D.nx σ H) ∨ (J.go i H ∧ ∃ N : St → Hp → Prop,(∀ σ' H',N σ' H' → ∃ m',m' < m ∧ W (i + 1) m' σ' H') ∧ ∀ x H',J.yld i H x H' → g x σ H' fun σ2 H2 => tb { D with nx := N,ct := N,bk := D.nx } σ2 H2)
def pinsAt (fp : List Addr) (h : Heap) : List (Addr × Obj) := fp.filterMap fun b => (h.get? b).map fun o => (b,o)
theorem mem_pinsAt {fp : List Addr} {h : Heap} {b : Addr} {o : Obj} (hb : b ∈ fp) (e : h.get? b = some o) : (b,o) ∈ pinsAt fp h := List.mem_filterMap.mpr ⟨b,hb,by rw [e]; rfl⟩
theorem of_pinsAt {fp : List Addr} {h : Heap} {p : Addr × Obj} (hp : p ∈ pinsAt fp h) : p.1 ∈ fp ∧ h.get? p.1 = some p.2 := by
  obtain ⟨b,hb,e⟩ := List.mem_filterMap.mp hp
  cases q : h.get? b with
  | none => rw [q] at e; cases e
  | some o =>
    rw [q] at e
    have e' : (b,o) = p := Option.some.inj e
    subst e'
    exact ⟨hb,q⟩
theorem Inv.pinned {pins : List (Addr × Obj)} {σ : St} {H : Hp} {s : Shared} {fp : List Addr} (I : Inv X pins σ H s) (hf : ∀ b ∈ fp,FpOk X pins H b) (ho : ∀ b ∈ fp,∃ o,s.heap.get? b = some o ∧ ∀ v,o.data ≠ .cell v) : Inv X (pins ++ pinsAt fp s.heap) σ H s :=
  I.pins_of fun p hp => (List.mem_append.mp hp).elim (fun z => I.pin p (List.mem_append_right _ z)) fun z => by
    obtain ⟨hb,e⟩ := of_pinsAt z
    obtain ⟨f0,f1,f2,_⟩ := hf p.1 hb
    obtain ⟨o,e',d⟩ := ho p.1 hb
    rw [e] at e'; cases e'
    exact ⟨e,f0,f1,f2,d⟩
theorem Inv.unpinned {pins pl : List (Addr × Obj)} {σ : St} {H : Hp} {s : Shared} (I : Inv X (pins ++ pl) σ H s) : Inv X pins σ H s := I.pins_of fun p hp => I.pin p (List.mem_append_right _ (List.mem_append_left _ hp))
theorem ps_for {iter : Expr} {body : List Stmt} {wi : TI} {g : TG} {tb : TS} {pos : Pos} (hp : PassesOwn (model X.prog X.w) X.A X.env X.xe) (hc : X.calm = true) (hi : PI X tg iter wi) (hg : PG X tg g) (hb : PSs X body tb)
    (hs : ∀ x,foldedSetIterable iter X.env x = pure x := by intro _; rfl) : PS X (.For tg iter body [] pos) (tFor wi g tb) := by
  intro pins s σ H D I h
  refine wpAny_For (thn (hi pins s σ H _ I h) fun v s1 h1 => thn h1 fun itv s2 h2 => ?_) hs
  obtain ⟨it,fp,tn,J,H2,e,I2,T,st2,f2,W,⟨m0,w0⟩,turn⟩ := h2
  subst e
  have stat : ∀ {H' : Hp},(∀ b ∈ fp,H' b = none) → ∀ b ∈ fp,FpOk X pins H' b := fun hn b hb => ⟨hn b hb,(f2 b hb).2⟩
  refine codeAny_forLoop_any (fun n s' => ∃ i σ' H',Inv X pins σ' H' s' ∧ tn i s'.heap ∧ (∀ b ∈ fp,H' b = none) ∧ W i n σ' H') ?_ m0 ⟨0,σ,H2,I2,st2,fun b hb => (f2 b hb).1,w0⟩
  rintro n s3 ⟨i,σ3,H3,I3,st3,fr3,w3⟩
  rcases turn i n σ3 H3 w3 with ⟨stop,qn⟩ | ⟨go,N,hN,step⟩
  · refine wpAny_passesOwn hp (thn (T.done X rfl rfl rfl hc i pins s3 σ3 H3 X.xe I3 (stat fr3) st3 stop) fun r s4 ⟨hr,I4⟩ => ?_)
    subst hr
    exact wpAny_execs_nil ⟨σ3,H3,I4,qn⟩
  · refine wpAny_passesOwn hp (thn (T.item X rfl rfl rfl hc i pins s3 σ3 H3 X.xe I3 (stat fr3) st3 go) fun r s4 ⟨u,hr,h4⟩ => ?_)
    subst hr
    refine wpAny_passesOwn hp (thn h4 fun _ s5 ⟨x,H5,I5,r5,y5,st5,fr5⟩ => ?_)
    have I5' := I5.pinned (stat fr5) (T.obj _ _ st5)
    refine wpAny_passesOwn hp (thn (hg _ s5 σ3 H5 x u _ I5' r5 (step x H5 y5)) fun _ s6 ⟨σ6,H6,I6,q6⟩ => ?_)
    refine wpAny_passesOwn hp (thn (hb _ s6 σ6 H6 _ I6 q6) fun f s7 q7 => ?_)
    have again : ∀ {σ7 : St} {H7 : Hp},Inv X (pins ++ pinsAt fp s5.heap) σ7 H7 s7 → N σ7 H7 → ∃ m,m < n ∧ ∃ i σ' H',Inv X pins σ' H' s7 ∧ tn i s7.heap ∧ (∀ b ∈ fp,H' b = none) ∧ W i m σ' H' := fun {σ7 H7} I7 n7 => by
      obtain ⟨m',hm,w7⟩ := hN σ7 H7 n7
      refine ⟨m',hm,i + 1,σ7,H7,I7.unpinned,T.keep _ _ _ st5 fun b hb o e => (I7.pin (b,o) (List.mem_append_right _ (List.mem_append_right _ (mem_pinsAt hb e)))).1,fun b hb => ?_,w7⟩
      obtain ⟨o,e,d⟩ := T.obj _ _ st5 b hb
      exact (I7.pin (b,o) (List.mem_append_right _ (List.mem_append_right _ (mem_pinsAt hb e)))).2.1
    cases f with
    | next => obtain ⟨σ7,H7,I7,n7⟩ := q7; exact again I7 n7
    | cont => obtain ⟨σ7,H7,I7,n7⟩ := q7; exact again I7 n7
    | brk => obtain ⟨σ7,H7,I7,q7⟩ := q7; exact ⟨σ7,H7,I7.unpinned,q7⟩
    | ret v => obtain ⟨x7,σ7,H7,I7,r7,q7⟩ := q7; exact ⟨x7,σ7,H7,I7.unpinned,r7,q7⟩
end
theorem for_list {K : PySem.W.Frag} {a : Addr} {xs : List V} {g : TG} {tb : TS} {D : Ends} {σ : St} {H : Hp} (Pv : Nat → St → Hp → Prop) (h0 : Pv 0 σ H) (hl : ∀ i σ H,i ≤ xs.length → Pv i σ H → SqL K H a xs)
    (hs : ∀ i x σ H,xs[i]? = some x → Pv i σ H → g x σ H fun σ2 H2 => tb { D with nx := Pv (i + 1),ct := Pv (i + 1),bk := D.nx } σ2 H2) (hd : ∀ σ H,Pv xs.length σ H → D.nx σ H) :
    ∃ W : Nat → Nat → St → Hp → Prop,(∃ m,W 0 m σ H) ∧ ∀ i m σ H,W i m σ H →
      ((Itl K a).stop i H ∧ D.nx σ H) ∨ ((Itl K a).go i H ∧ ∃ N : St → Hp → Prop,(∀ σ' H',N σ' H' → ∃ m',m' < m ∧ W (i + 1) m' σ' H') ∧ ∀ x H',(Itl K a).yld i H x H' → g x σ H' fun σ2 H2 => tb { D with nx := N,ct := N,bk := D.nx } σ2 H2) := by
  refine ⟨fun i m σ H => m = xs.length - i ∧ i ≤ xs.length ∧ Pv i σ H,⟨xs.length,by simp,Nat.zero_le _,h0⟩,?_⟩
  rintro i m σ H ⟨rfl,hi,p⟩
  have q := hl i σ H hi p
  by_cases hlt : i < xs.length
  · refine .inr ⟨⟨xs,xs[i],q,by simp [hlt]⟩,Pv (i + 1),fun σ' H' p' => ⟨xs.length - (i + 1),by omega,rfl,hlt,p'⟩,fun x H' y => ?_⟩
    obtain ⟨e,y⟩ := y
    subst e
    exact hs i x σ _ (y xs q) p
  · have e : i = xs.length := by omega
    subst e
    exact .inl ⟨⟨xs,q,Nat.le_refl _⟩,hd σ H p⟩
theorem for_range {lo : Int} {n : Nat} {g : TG} {tb : TS} {D : Ends} {σ : St} {H : Hp} (Pv : Nat → St → Hp → Prop) (h0 : Pv 0 σ H)
    (hs : ∀ i σ H,i < n → Pv i σ H → g (.int (lo + i)) σ H fun σ2 H2 => tb { D with nx := Pv (i + 1),ct := Pv (i + 1),bk := D.nx } σ2 H2) (hd : ∀ σ H,Pv n σ H → D.nx σ H) :
    ∃ W : Nat → Nat → St → Hp → Prop,(∃ m,W 0 m σ H) ∧ ∀ i m σ H,W i m σ H →
      ((Itr lo n).stop i H ∧ D.nx σ H) ∨ ((Itr lo n).go i H ∧ ∃ N : St → Hp → Prop,(∀ σ' H',N σ' H' → ∃ m',m' < m ∧ W (i + 1) m' σ' H') ∧ ∀ x H',(Itr lo n).yld i H x H' → g x σ H' fun σ2 H2 => tb { D with nx := N,ct := N,bk := D.nx } σ2 H2) := by
  refine ⟨fun i m σ H => m = n - i ∧ i ≤ n ∧ Pv i σ H,⟨n,by simp,Nat.zero_le _,h0⟩,?_⟩
  rintro i m σ H ⟨rfl,hi,p⟩
  by_cases hlt : i < n
  · refine .inr ⟨hlt,Pv (i + 1),fun σ' H' p' => ⟨n - (i + 1),by omega,rfl,hlt,p'⟩,fun x H' y => ?_⟩
    obtain ⟨e,y⟩ := y
    subst e y
    exact hs i σ _ hlt p
  · have e : i = n := by omega
    subst e
    exact .inl ⟨Nat.le_refl _,hd σ H p⟩
theorem while_by {c : TT} {tb : TS} {D : Ends} {σ : St} {H : Hp} (Pv : St → Hp → Prop) (μ : St → Hp → Nat) (h0 : Pv σ H)
    (hs : ∀ σ H,Pv σ H → c σ H fun b H1 => if b = true then tb { D with nx := fun σ' H' => Pv σ' H' ∧ μ σ' H' < μ σ H,ct := fun σ' H' => Pv σ' H' ∧ μ σ' H' < μ σ H,bk := D.nx } σ H1 else D.nx σ H1)
    (mono : ∀ σ H Q Q',(∀ b H1,Q b H1 → Q' b H1) → c σ H Q → c σ H Q') : tWhile c tb D σ H := by
  refine ⟨fun m σ H => m = μ σ H ∧ Pv σ H,⟨_,rfl,h0⟩,?_⟩
  rintro m σ H ⟨rfl,p⟩
  refine mono σ H _ _ (fun b H1 q => ?_) (hs σ H p)
  cases b with
  | true => exact ⟨_,fun σ' H' ⟨p',l⟩ => ⟨_,l,rfl,p'⟩,q⟩
  | false => exact q
end L2
namespace L2
open PySem PySem.Spec PyProof.Rows
abbrev R2 := V → V → Hp → VK → Prop
def OpR (X : Cx) (f : Value → Value → Sem Value) (r : R2) : Prop :=
  ∀ (pins : List (Addr × Obj)) (s : Shared) (σ : St) (H : Hp) (x y : V) (v u : Value) (Q : VK),Inv X pins σ H s → RelV x v → RelV y u → r x y H Q →
    wpAny (model X.prog X.w) X.A (f v u) (EP X pins σ Q) X.xe s
def UnR (X : Cx) (f : Value → Sem Value) (r : V → Hp → VK → Prop) : Prop :=
  ∀ (pins : List (Addr × Obj)) (s : Shared) (σ : St) (H : Hp) (x : V) (v : Value) (Q : VK),Inv X pins σ H s → RelV x v → r x H Q →
    wpAny (model X.prog X.w) X.A (f v) (EP X pins σ Q) X.xe s
def CallR (X : Cx) (f : Value) (r : List V → Hp → VK → Prop) : Prop :=
  ∀ (pins : List (Addr × Obj)) (s : Shared) (σ : St) (H : Hp) (xs : List V) (us : List Value) (Q : VK),Inv X pins σ H s → Vals xs us → r xs H Q →
    wpAny (model X.prog X.w) X.A (call f us) (EP X pins σ Q) X.xe s
def tOp (r : R2) (ta tb : TE) : TE := fun σ H Q => ta σ H fun x H1 => tb σ H1 fun y H2 => r x y H2 Q
def tUn (r : V → Hp → VK → Prop) (ta : TE) : TE := fun σ H Q => ta σ H fun x H1 => r x H1 Q
def rI (C : Int → Int → Prop) (g : Int → Int → V) : R2 := fun x y H Q => ∃ i j,x = .int i ∧ y = .int j ∧ C i j ∧ Q (g i j) H
def rI0 (g : Int → Int → V) : R2 := fun x y H Q => ∃ i j,x = .int i ∧ y = .int j ∧ Q (g i j) H
def rU (g : Int → V) : V → Hp → VK → Prop := fun x H Q => ∃ i,x = .int i ∧ Q (g i) H
section
variable {X : Cx} {a b c : Expr} {ta tb tc : TE} {pos : Pos}
theorem binT (ha : PE X a ta) (hb : PE X b tb) {pins : List (Addr × Obj)} {s : Shared} {σ : St} {H : Hp} {R : V → V → Hp → Prop} (I : Inv X pins σ H s)
    (h : ta σ H fun x H1 => tb σ H1 fun y H2 => R x y H2) {Q : Value → Shared → Prop} {f : Value → Value → Sem Value}
    (hf : ∀ v u s2 x y H2,Inv X pins σ H2 s2 → RelV x v → RelV y u → R x y H2 → wpAny (model X.prog X.w) X.A (f v u) Q X.xe s2) :
    wpAny (model X.prog X.w) X.A (eval a X.env) (fun v s₁ => wpAny (model X.prog X.w) X.A (eval b X.env) (fun u s₂ => wpAny (model X.prog X.w) X.A (f v u) Q X.xe s₂) X.xe s₁) X.xe s := by
  refine thn (ha pins s σ H _ I h) fun v s1 ⟨x,H1,I1,r1,q1⟩ => ?_
  refine thn (hb pins s1 σ H1 _ I1 q1) fun u s2 ⟨y,H2,I2,r2,q2⟩ => ?_
  exact hf v u s2 x y H2 I2 r1 r2 q2
theorem pe_op {op : Operator} {r : R2} (ho : OpR X (binaryOp op) r) (ha : PE X a ta) (hb : PE X b tb) : PE X (.BinOp a op b pos) (tOp r ta tb) := by
  intro pins s σ H Q I h
  exact wpAny_BinOp (binT ha hb I h fun v u s2 x y H2 I2 rx ry q => ho pins s2 σ H2 x y v u Q I2 rx ry q)
theorem pe_un {op : UnaryOp} {r : V → Hp → VK → Prop} (ho : UnR X (unaryOp op) r) (ha : PE X a ta) : PE X (.UnaryOp op a pos) (tUn r ta) := by
  intro pins s σ H Q I h
  exact UnaryOp_ (thn (ha pins s σ H _ I h) fun v s1 ⟨x,H1,I1,r1,q1⟩ => ho pins s1 σ H1 x v Q I1 r1 q1)
theorem opI {f : Value → Value → Sem Value} {C : Int → Int → Prop} {g : Int → Int → Int}
    (rule : ∀ (i j : Int) (t u : Tok) (s : Shared) (Q : Value → Shared → Prop) (E : Value → Shared → Prop),C i j → Q (.int (g i j) s.toks) { s with toks := s.toks + 1 } → wpAny (model X.prog X.w) X.A (f (.int i t) (.int j u)) Q E s) :
    OpR X f (rI C fun i j => .int (g i j)) := by
  intro pins s σ H x y v u Q I rx ry h
  obtain ⟨i,j,rfl,rfl,hc,q⟩ := h
  obtain ⟨t,rfl⟩ := rx
  obtain ⟨t',rfl⟩ := ry
  exact rule i j t t' s _ _ hc ⟨.int (g i j),H,I.tok _,⟨_,rfl⟩,q⟩
theorem opI0 {f : Value → Value → Sem Value} {g : Int → Int → Int}
    (rule : ∀ (i j : Int) (t u : Tok) (s : Shared) (Q : Value → Shared → Prop) (E : Value → Shared → Prop),Q (.int (g i j) s.toks) { s with toks := s.toks + 1 } → wpAny (model X.prog X.w) X.A (f (.int i t) (.int j u)) Q E s) :
    OpR X f (rI0 fun i j => .int (g i j)) := by
  intro pins s σ H x y v u Q I rx ry h
  obtain ⟨i,j,rfl,rfl,q⟩ := h
  obtain ⟨t,rfl⟩ := rx
  obtain ⟨t',rfl⟩ := ry
  exact rule i j t t' s _ _ ⟨.int (g i j),H,I.tok _,⟨_,rfl⟩,q⟩
theorem opB0 {f : Value → Value → Sem Value} {g : Int → Int → Bool}
    (rule : ∀ (i j : Int) (t u : Tok) (s : Shared) (Q : Value → Shared → Prop) (E : Value → Shared → Prop),Q (.bool (g i j)) s → wpAny (model X.prog X.w) X.A (f (.int i t) (.int j u)) Q E s) :
    OpR X f (rI0 fun i j => .bl (g i j)) := by
  intro pins s σ H x y v u Q I rx ry h
  obtain ⟨i,j,rfl,rfl,q⟩ := h
  obtain ⟨t,rfl⟩ := rx
  obtain ⟨t',rfl⟩ := ry
  exact rule i j t t' s _ _ ⟨.bl (g i j),H,I,rfl,q⟩
def CPow (i j : Int) : Prop := 0 ≤ j ∧ j ≤ 1000000 ∧ i.natAbs < 2 ^ 64
def CMul (i j : Int) : Prop := (-(2 ^ 64) < i ∧ i < 2 ^ 64) ∨ (-(2 ^ 64) < j ∧ j < 2 ^ 64)
theorem CMul.ok {i j : Int} (h : CMul i j) : IntMulOk i j := by
  rcases h with ⟨h1,h2⟩ | ⟨h1,h2⟩
  · exact .of_left (intBits_le_64 h1 h2)
  · exact .of_right (intBits_le_64 h1 h2)
theorem op_add : OpR X (binaryOp .Add) (rI0 fun i j => .int (i + j)) := opI0 fun _ _ _ _ _ _ _ q => add_int q
theorem op_sub : OpR X (binaryOp .Sub) (rI0 fun i j => .int (i - j)) := opI0 fun _ _ _ _ _ _ _ q => sub_int q
theorem op_mod : OpR X (binaryOp .Mod) (rI (fun _ j => 0 < j) fun i j => .int (i % j)) := opI fun i j _ _ _ _ _ hc q => by
  have h1 : (0 : Int) < j := hc
  exact mod_int' (by omega) (by rw [Int.fmod_eq_emod_of_nonneg i (by omega)]; exact q)
theorem op_pow : OpR X (binaryOp .Pow) (rI CPow fun i j => .int (i ^ j.toNat)) := opI fun _ _ _ _ _ _ _ hc q => pow_int_small hc.1 hc.2.1 hc.2.2 q
theorem unI {f : Value → Sem Value} {g : Int → Int}
    (rule : ∀ (i : Int) (t : Tok) (s : Shared) (Q : Value → Shared → Prop) (E : Value → Shared → Prop),Q (.int (g i) s.toks) { s with toks := s.toks + 1 } → wpAny (model X.prog X.w) X.A (f (.int i t)) Q E s) :
    UnR X f (rU fun i => .int (g i)) := by
  intro pins s σ H x v Q I rx h
  obtain ⟨i,rfl,q⟩ := h
  obtain ⟨t,rfl⟩ := rx
  exact rule i t s _ _ ⟨.int (g i),H,I.tok _,⟨_,rfl⟩,q⟩
theorem un_neg : UnR X (unaryOp .USub) (rU fun i => .int (-i)) := unI fun _ _ _ _ _ q => neg_int q
end
def scal : V → V → Bool
  | .non,.non => true | .non,.int _ => true | .int _,.non => true | .non,.bl _ => true | .bl _,.non => true | .non,.str _ => true | .str _,.non => true
  | .int _,.int _ => true | .bl _,.bl _ => true | .str _,.str _ => true | .byt _,.byt _ => true
  | .int _,.str _ => true | .str _,.int _ => true | .bl _,.str _ => true | .str _,.bl _ => true
  | _,_ => false
def rEq : R2 := fun x y H Q => scal x y = true ∧ Q (.bl (decide (x = y))) H
def rNe : R2 := fun x y H Q => scal x y = true ∧ Q (.bl (!decide (x = y))) H
theorem dec_int {i j : Int} : decide (V.int i = V.int j) = (i == j) := by
  rw [Bool.eq_iff_iff]
  simp
theorem dec_bl {i j : Bool} : decide (V.bl i = V.bl j) = (i == j) := by
  rw [Bool.eq_iff_iff]
  simp
theorem dec_str {i j : Str} : decide (V.str i = V.str j) = (i == j) := by
  rw [Bool.eq_iff_iff]
  simp
theorem dec_byt {i j : Array UInt8} : decide (V.byt i = V.byt j) = (i.toList == j.toList) := by
  rw [Bool.eq_iff_iff]
  cases i
  cases j
  simp
section
variable {X : Cx} {a b c : Expr} {ta tb tc : TE} {pos : Pos}
theorem fin_bl {pins : List (Addr × Obj)} {σ : St} {H : Hp} {s : Shared} {Q : VK} {k k' : Bool} (I : Inv X pins σ H s) (q : Q (.bl k) H) (e : k = k') : EP X pins σ Q (.bool k') s := by
  subst e
  exact ⟨.bl k,H,I,rfl,q⟩
theorem op_eq : OpR X (compareOp .Eq) rEq := by
  intro pins s σ H x y v u Q I rx ry h
  obtain ⟨hs,q⟩ := h
  cases x with
  | non =>
    cases rx
    cases y with
    | non => cases ry; exact PySem.EqNone.eq_none_none (fin_bl I q (by simp))
    | bl j => cases ry; exact PySem.EqNone.eq_none_bool (fin_bl I q (by simp))
    | int j => obtain ⟨t',rfl⟩ := ry; exact PySem.EqNone.eq_none_int (fin_bl I q (by simp))
    | str j => obtain ⟨t',rfl⟩ := ry; exact PySem.EqNone.eq_none_str (fin_bl I q (by simp))
    | _ => exact absurd (show false = true from hs) Bool.false_ne_true
  | bl i =>
    cases rx
    cases y with
    | non => cases ry; exact PySem.EqNone.eq_bool_none (fin_bl I q (by simp))
    | bl j => cases ry; exact eq_bool (fin_bl I q dec_bl)
    | str j => obtain ⟨t',rfl⟩ := ry; exact PySem.EqMixed.eq_bool_str (fin_bl I q (by simp))
    | _ => exact absurd (show false = true from hs) Bool.false_ne_true
  | int i =>
    obtain ⟨t,rfl⟩ := rx
    cases y with
    | non => cases ry; exact PySem.EqNone.eq_int_none (fin_bl I q (by simp))
    | int j => obtain ⟨t',rfl⟩ := ry; exact eq_int (fin_bl I q dec_int)
    | str j => obtain ⟨t',rfl⟩ := ry; exact PySem.EqMixed.eq_int_str (fin_bl I q (by simp))
    | _ => exact absurd (show false = true from hs) Bool.false_ne_true
  | str i =>
    obtain ⟨t,rfl⟩ := rx
    cases y with
    | non => cases ry; exact PySem.EqNone.eq_str_none (fin_bl I q (by simp))
    | bl j => cases ry; exact PySem.EqMixed.eq_str_bool (fin_bl I q (by simp))
    | int j => obtain ⟨t',rfl⟩ := ry; exact PySem.EqMixed.eq_str_int (fin_bl I q (by simp))
    | str j => obtain ⟨t',rfl⟩ := ry; exact eq_str (fin_bl I q dec_str)
    | _ => exact absurd (show false = true from hs) Bool.false_ne_true
  | byt i =>
    obtain ⟨t,rfl⟩ := rx
    cases y with
    | byt j => obtain ⟨t',rfl⟩ := ry; exact PySem.W.eq_bytes (fin_bl I q dec_byt)
    | _ => exact absurd (show false = true from hs) Bool.false_ne_true
  | _ => cases y <;> exact absurd (show false = true from hs) Bool.false_ne_true
theorem op_ne : OpR X (compareOp .NotEq) rNe := by
  intro pins s σ H x y v u Q I rx ry h
  obtain ⟨hs,q⟩ := h
  cases x with
  | non =>
    cases rx
    cases y with
    | non => cases ry; exact PySem.EqNone.ne_none_none (fin_bl I q (by simp))
    | bl j => cases ry; exact PySem.EqNone.ne_none_bool (fin_bl I q (by simp))
    | int j => obtain ⟨t',rfl⟩ := ry; exact PySem.EqNone.ne_none_int (fin_bl I q (by simp))
    | str j => obtain ⟨t',rfl⟩ := ry; exact PySem.EqNone.ne_none_str (fin_bl I q (by simp))
    | _ => exact absurd (show false = true from hs) Bool.false_ne_true
  | bl i =>
    cases rx
    cases y with
    | non => cases ry; exact PySem.EqNone.ne_bool_none (fin_bl I q (by simp))
    | bl j => cases ry; exact ne_bool (fin_bl I q (congrArg not dec_bl))
    | str j => obtain ⟨t',rfl⟩ := ry; exact PySem.EqMixed.ne_bool_str (fin_bl I q (by simp))
    | _ => exact absurd (show false = true from hs) Bool.false_ne_true
  | int i =>
    obtain ⟨t,rfl⟩ := rx
    cases y with
    | non => cases ry; exact PySem.EqNone.ne_int_none (fin_bl I q (by simp))
    | int j => obtain ⟨t',rfl⟩ := ry; exact ne_int (fin_bl I q (congrArg not dec_int))
    | str j => obtain ⟨t',rfl⟩ := ry; exact PySem.EqMixed.ne_int_str (fin_bl I q (by simp))
    | _ => exact absurd (show false = true from hs) Bool.false_ne_true
  | str i =>
    obtain ⟨t,rfl⟩ := rx
    cases y with
    | non => cases ry; exact PySem.EqNone.ne_str_none (fin_bl I q (by simp))
    | bl j => cases ry; exact PySem.EqMixed.ne_str_bool (fin_bl I q (by simp))
    | int j => obtain ⟨t',rfl⟩ := ry; exact PySem.EqMixed.ne_str_int (fin_bl I q (by simp))
    | str j => obtain ⟨t',rfl⟩ := ry; exact ne_str (fin_bl I q (congrArg not dec_str))
    | _ => exact absurd (show false = true from hs) Bool.false_ne_true
  | byt i =>
    obtain ⟨t,rfl⟩ := rx
    cases y with
    | byt j => obtain ⟨t',rfl⟩ := ry; exact PySem.W.ne_bytes (fin_bl I q (congrArg not dec_byt))
    | _ => exact absurd (show false = true from hs) Bool.false_ne_true
  | _ => cases y <;> exact absurd (show false = true from hs) Bool.false_ne_true
theorem op_lt : OpR X (compareOp .Lt) (rI0 fun i j => .bl (decide (i < j))) := opB0 fun _ _ _ _ _ _ _ q => lt_int q
theorem op_le : OpR X (compareOp .LtE) (rI0 fun i j => .bl (decide (i ≤ j))) := opB0 fun _ _ _ _ _ _ _ q => le_int q
theorem op_gt : OpR X (compareOp .Gt) (rI0 fun i j => .bl (decide (j < i))) := opB0 fun _ _ _ _ _ _ _ q => gt_int q
theorem op_ge : OpR X (compareOp .GtE) (rI0 fun i j => .bl (decide (j ≤ i))) := opB0 fun _ _ _ _ _ _ _ q => ge_int q
theorem nomark (b : Expr) {op : CmpOp} (h : op ≠ .In := by decide) (h2 : op ≠ .NotIn := by decide) : behindInMarks op b = false := by
  have e1 : (op == CmpOp.In) = false := by cases op <;> first | rfl | exact absurd rfl h
  have e2 : (op == CmpOp.NotIn) = false := by cases op <;> first | rfl | exact absurd rfl h2
  cases b <;> simp [behindInMarks,e1,e2]
theorem pe_cmpR {op : CmpOp} {r : R2} (ho : OpR X (compareOp op) r) (ha : PE X a ta) (hb : PE X b tb) (hm : behindInMarks op b = false) : PE X (.Compare a [op] [b] pos) (tOp r ta tb) := by
  intro pins s σ H Q I h
  exact wpAny_Compare1 (binT ha hb I h fun v u s2 x y H2 I2 rx ry q => ho pins s2 σ H2 x y v u Q I2 rx ry q) hm
def tTest (t : TE) : TT := fun σ H Q => t σ H fun x H' => ∃ k,x = .bl k ∧ Q k H'
theorem pt_cmpR {op : CmpOp} {r : R2} (ho : OpR X (compareOp op) r) (ha : PE X a ta) (hb : PE X b tb) (hm : behindInMarks op b = false) : PT X (.Compare a [op] [b] pos) (tTest (tOp r ta tb)) := by
  intro pins s σ H Q I h
  refine wpAny_isTrue_Compare1 (thn (ha pins s σ H _ I h) fun v s1 ⟨x,H1,I1,r1,q1⟩ => thn (hb pins s1 σ H1 _ I1 q1) fun u s2 ⟨y,H2,I2,r2,q2⟩ =>
    thn (ho pins s2 σ H2 x y v u _ I2 r1 r2 q2) fun c s3 ⟨z,H3,I3,r3,k,e,q3⟩ => ?_) hm
  subst e
  cases r3
  exact wpAny_truthy_bool ⟨H3,I3,q3⟩
def tChain (r r' : R2) (ta tb tc : TE) : TE := fun σ H Q => ta σ H fun x H1 => tb σ H1 fun y H2 => r x y H2 fun z H3 => ∃ k,z = .bl k ∧
  (if k = true then tc σ H3 fun w' H4 => r' y w' H4 Q else Q (.bl false) H3)
theorem pe_chain {op op' : CmpOp} {r r' : R2} (ho : OpR X (compareOp op) r) (ho' : OpR X (compareOp op') r') (ha : PE X a ta) (hb : PE X b tb) (hc : PE X c tc)
    (hm : lastMarks [op,op'] [b,c] = false := by with_unfolding_all rfl) : PE X (.Compare a [op,op'] [b,c] pos) (tChain r r' ta tb tc) := by
  intro pins s σ H Q I h
  refine Compare_chain (thn (ha pins s σ H _ I h) fun v s1 ⟨x,H1,I1,r1,q1⟩ => chain_link (thn (hb pins s1 σ H1 _ I1 q1) fun u s2 ⟨y,H2,I2,r2,q2⟩ =>
    thn (ho pins s2 σ H2 x y v u _ I2 r1 r2 q2) fun d s3 ⟨z,H3,I3,r3,k,e,q3⟩ => ?_)) hm
  subst e
  cases r3
  refine wpAny_truthy_bool ?_
  cases k with
  | false => exact ite_ff ⟨.bl false,H3,I3,rfl,q3⟩
  | true => exact ite_tt (chain_last (thn (hc pins s3 σ H3 _ I3 q3) fun w' s4 ⟨z',H4,I4,r4,q4⟩ => ho' pins s4 σ H4 y z' u w' Q I4 r2 r4 q4))
theorem pt_chain {op op' : CmpOp} {r r' : R2} (ho : OpR X (compareOp op) r) (ho' : OpR X (compareOp op') r') (ha : PE X a ta) (hb : PE X b tb) (hc : PE X c tc)
    (hm : lastMarks [op,op'] [b,c] = false := by with_unfolding_all rfl) : PT X (.Compare a [op,op'] [b,c] pos) (tTest (tChain r r' ta tb tc)) := by
  intro pins s σ H Q I h
  refine isTrue_chain (thn (ha pins s σ H _ I h) fun v s1 ⟨x,H1,I1,r1,q1⟩ => test_link (thn (hb pins s1 σ H1 _ I1 q1) fun u s2 ⟨y,H2,I2,r2,q2⟩ =>
    thn (ho pins s2 σ H2 x y v u _ I2 r1 r2 q2) fun d s3 ⟨z,H3,I3,r3,k,e,q3⟩ => ?_)) hm
  subst e
  cases r3
  refine wpAny_truthy_bool ?_
  cases k with
  | false =>
    obtain ⟨k',e',q'⟩ := q3
    cases e'
    exact ite_ff ⟨H3,I3,q'⟩
  | true =>
    refine ite_tt (test_last (thn (hc pins s3 σ H3 _ I3 q3) fun w' s4 ⟨z',H4,I4,r4,q4⟩ => thn (ho' pins s4 σ H4 y z' u w' _ I4 r2 r4 q4) fun d' s5 ⟨z2,H5,I5,r5,k2,e2,q5⟩ => ?_))
    subst e2
    cases r5
    exact wpAny_truthy_bool ⟨H5,I5,q5⟩
theorem line63 : (sizeLine : Nat) < 2 ^ 63 := by rw [sizeLine_eq]; decide
theorem op_add_str : OpR X (binaryOp .Add) (fun x y H Q => ∃ i j,x = .str i ∧ y = .str j ∧ i.length + j.length ≤ sizeLine ∧ Q (.str (i ++ j)) H) := by
  intro pins s σ H x y v u Q I rx ry h
  obtain ⟨i,j,rfl,rfl,hz,q⟩ := h
  obtain ⟨t,rfl⟩ := rx
  obtain ⟨t',rfl⟩ := ry
  exact add_str (fun t' tk => ⟨.str (i ++ j),H,I.tok _,⟨_,rfl⟩,q⟩) hz
theorem vals1 {x : V} {us : List Value} (r : Vals [x] us) : ∃ u,us = [u] ∧ RelV x u := by
  cases r with
  | cons r1 r2 => cases r2; exact ⟨_,rfl,r1⟩
theorem vals2 {x y : V} {us : List Value} (r : Vals [x,y] us) : ∃ u w',us = [u,w'] ∧ RelV x u ∧ RelV y w' := by
  cases r with
  | cons r1 r2 =>
    cases r2 with
    | cons r3 r4 => cases r4; exact ⟨_,_,rfl,r1,r3⟩
theorem call_abs : CallR X (.builtin "abs") (fun xs H Q => ∃ i,xs = [.int i] ∧ Q (.int (if i < 0 then -i else i)) H) := by
  intro pins s σ H xs us Q I r h
  obtain ⟨i,rfl,q⟩ := h
  obtain ⟨u,rfl,t,rfl⟩ := vals1 r
  exact call_abs_int fun u tk => ⟨.int (if i < 0 then -i else i),H,I.tok _,⟨_,rfl⟩,q⟩
theorem call_max2 (hc : X.calm = true) : CallR X (.builtin "max") (fun xs H Q => ∃ i j,xs = [.int i,.int j] ∧ Q (.int (if j > i then j else i)) H) := by
  intro pins s σ H xs us Q I r h
  obtain ⟨i,j,rfl,q⟩ := h
  obtain ⟨u,w',rfl,⟨t,rfl⟩,⟨t',rfl⟩⟩ := vals2 r
  refine max_two_ints (I.ok.hd hc) fun h' tk k => ⟨_,H,I.kept k,?_,q⟩
  by_cases hj : j > i
  · rw [if_pos hj,if_pos hj]; exact ⟨_,rfl⟩
  · rw [if_neg hj,if_neg hj]; exact ⟨_,rfl⟩
theorem call_min2 (hc : X.calm = true) : CallR X (.builtin "min") (fun xs H Q => ∃ i j,xs = [.int i,.int j] ∧ Q (.int (if j < i then j else i)) H) := by
  intro pins s σ H xs us Q I r h
  obtain ⟨i,j,rfl,q⟩ := h
  obtain ⟨u,w',rfl,⟨t,rfl⟩,⟨t',rfl⟩⟩ := vals2 r
  refine min_two_ints (I.ok.hd hc) fun h' tk k => ⟨_,H,I.kept k,?_,q⟩
  by_cases hj : j < i
  · rw [if_pos hj,if_pos hj]; exact ⟨_,rfl⟩
  · rw [if_neg hj,if_neg hj]; exact ⟨_,rfl⟩
end
end L2
namespace L2
open PySem PySem.Spec PyProof.Rows
structure ObjM (h : Heap) (x dx C : Addr) (mA : Str → Option Value) : Prop where
  obj : h.get? x = some (PySem.W.instObj C dx)
  ns : h.Ns1 dx mA
  ne : dx ≠ x
theorem lookIn_ns {h : Heap} {dx : Addr} {mA : Str → Option Value} (n : h.Ns1 dx mA) : ∃ od,h.get? dx = some od ∧ ∀ name,PySem.W.lookIn name od = some (mA name) := by
  obtain ⟨o,es,ep,ho,hd,hk,_,hm⟩ := n
  refine ⟨o,ho,fun name => ?_⟩
  have e := hm name
  unfold nsFind findBy at e
  rw [← Array.find?_toList] at e
  unfold PySem.W.lookIn
  rw [hd]
  dsimp only
  split
  · rename_i y q
    rw [q] at e
    exact congrArg some e
  · rename_i q
    rw [q] at e
    have a : es.toList.any (·.refKey) = false := by
      rw [List.any_eq_false]
      intro y hy
      obtain ⟨z,t,hkey⟩ := hk y (Array.mem_toList_iff.mp hy)
      simp [DictEntry.refKey,hkey]
    have a' : ¬ es.toList.any (·.refKey) = true := by rw [a]; exact Bool.false_ne_true
    rw [if_neg a']
    exact congrArg some e
theorem ObjM.look {h : Heap} {x dx C : Addr} {mA : Str → Option Value} (I : ObjM h x dx C mA) : ∃ od,PySem.W.InstAt h x (PySem.W.instObj C dx) C (some od) ∧ ∀ name,PySem.W.lookIn name od = some (mA name) :=
  let ⟨od,ho,hl⟩ := lookIn_ns I.ns
  ⟨od,⟨I.obj,rfl,rfl,ho⟩,hl⟩
section
variable {prog : Program} {w : World} {A : Around} {E : Value → Shared → Prop} {s : Shared} {K : PySem.W.Frag} {x dx C f : Addr} {mA : Str → Option Value} {name : Str} {v : Value}
end
section
variable {P : Program} {w : World} {H H' : Hp} {h h' : Heap} {a C dx : Addr} {fs fs' : List (Str × V)}
theorem ins_get (hok : HOk P w H h) (e : H a = some (.ins C dx fs)) : ∃ mA,ObjM h a dx C mA ∧ (∀ f,RelO (fs.lookup f) (mA f)) ∧ PySem.Within mA (fs.map (·.1)) ∧ fs.length ≤ 1000 ∧ H dx = some (.own a) := by
  obtain ⟨d,z,ne,ob,mA,n,r,q⟩ := (show ObjOk P w H h a (.ins C dx fs) from hok a _ e)
  exact ⟨mA,⟨ob,n,ne⟩,r,q,z,d⟩
end
structure Cls (K : PySem.W.Frag) (C : Addr) : Prop where
  pg : PySem.W.plainGet K C Str.empty = true
  hd : PySem.W.hasDictIn K C = true
  po : PySem.W.plainOver K C = true
  sa : PySem.W.findIn K (.ref C) "__setattr__" = some (some (.builtin "object.__setattr__"))
theorem Cls.get {K : PySem.W.Frag} {C : Addr} (c : Cls K C) (f : Str) : PySem.W.plainGet K C f = true := c.pg
section
variable {X : Cx} {pins : List (Addr × Obj)} {σ : St} {H : Hp} {s : Shared} {a C dx : Addr} {fs : List (Str × V)} {f : Str} {v : V} {A : Around} {E : Value → Shared → Prop}
end
section
variable {X : Cx} {o e value : Expr} {f : Str} {pos pos' tpos : Pos} {ta tv : TE}
end
section
variable {X : Cx} {pins : List (Addr × Obj)} {σ : St} {H : Hp} {s : Shared} {A : Around} {E : Value → Shared → Prop} {Q : Value → Shared → Prop} {c : Value} {b : Bool}
inductive TyOf (K : PySem.W.Frag) (H : Hp) : V → Value → Prop where
  | non : TyOf K H .non (.type "NoneType")
  | bl (x : Bool) : TyOf K H (.bl x) (.type "bool")
  | int (i : Int) : TyOf K H (.int i) (.type "int")
  | str (x : Str) : TyOf K H (.str x) (.type "str")
  | flt (x : UInt64) : TyOf K H (.flt x) (.type "float")
  | lst {a : Addr} {xs : List V} (e : H a = some (.lst xs)) : TyOf K H (.ref a) (.type "list")
  | frz {a : Addr} {o : Obj} {xs : List V} (e : H a = some (.frz o (.lst xs))) : TyOf K H (.ref a) (.type "list")
  | tup {a : Addr} {xs : List V} (e : H a = some (.tup xs)) : TyOf K H (.ref a) (.type "tuple")
  | dK {a : Addr} {kvs : List (Key × V)} (e : H a = some (.dK kvs)) : TyOf K H (.ref a) (.type "dict")
  | dT {a : Addr} {kvs : List (List Key × V)} (e : H a = some (.dT kvs)) : TyOf K H (.ref a) (.type "dict")
  | ins {a C dx : Addr} {fs : List (Str × V)} (e : H a = some (.ins C dx fs)) (cl : Cls K C) (ha : PySem.W.findIn K (.ref C) "__class__" = some (some (.builtin "object.__class__")))
      (hn : PySem.W.specialIn K (.builtin "object.__class__") "__get__" = some (some (.builtin "getset_descriptor.__get__"))) (htk : PySem.W.takesIn K (.builtin "object.__class__") = some true)
      (hm : PySem.W.mroIn K C (.type "object") = some true) : TyOf K H (.ref a) (.ref C)
theorem isinst_ok {x : V} {u t : Value} (I : Inv X pins σ H s) (rx : RelV x u) (ty : TyOf X.K H x t) (e : PySem.W.kitOne X.K t c = some b) (h : ∀ tk,Q (.bool b) { s with toks := tk }) :
    wpAny (model X.prog X.w) A (call (.builtin "isinstance") [u,c]) Q E s := by
  cases ty with
  | non => cases (show u = Value.none from rx); exact PySem.W.kia_one PySem.W.kitx_none I.kIn True.intro e (fun z => nomatch z) h
  | bl y => cases (show u = Value.bool y from rx); exact PySem.W.kia_one PySem.W.kitx_bool I.kIn True.intro e (fun z => nomatch z) h
  | int i => obtain ⟨t,q⟩ := (show ∃ t,u = Value.int i t from rx); cases q; exact PySem.W.kia_one PySem.W.kitx_int I.kIn True.intro e (fun z => nomatch z) h
  | str y => obtain ⟨t,q⟩ := (show ∃ t,u = Value.str y t from rx); cases q; exact PySem.W.kia_one PySem.W.kitx_str I.kIn True.intro e (fun z => nomatch z) h
  | flt y => obtain ⟨t,q⟩ := (show ∃ t,u = Value.float y t from rx); cases q; exact PySem.W.kia_one PySem.W.kitx_float I.kIn True.intro e (fun z => nomatch z) h
  | @lst a xs ea =>
    cases (show u = Value.ref a from rx)
    obtain ⟨_,_,n,_,h1⟩ := (show ObjOk X.prog X.w H s.heap a (.lst xs) from I.hok a _ ea)
    exact PySem.W.kia_one PySem.W.kitx_list I.kIn ⟨_,h1,rfl⟩ e (fun z => nomatch z) h
  | @frz a ob xs ea =>
    cases (show u = Value.ref a from rx)
    obtain ⟨_,_,_,n,_,h1⟩ := (show ObjOk X.prog X.w H s.heap a (.frz ob (.lst xs)) from I.hok a _ ea)
    exact PySem.W.kia_one PySem.W.kitx_list I.kIn ⟨_,h1,rfl⟩ e (fun z => nomatch z) h
  | @tup a xs ea =>
    cases (show u = Value.ref a from rx)
    obtain ⟨_,_,_,p⟩ := (show ObjOk X.prog X.w H s.heap a (.tup xs) from I.hok a _ ea)
    obtain ⟨o,h1,h2,_⟩ := p
    exact PySem.W.kia_one PySem.W.kitx_tuple I.kIn ⟨o,h1,h2⟩ e (fun z => nomatch z) h
  | @dK a kvs ea =>
    cases (show u = Value.ref a from rx)
    obtain ⟨_,_,vs,_,p⟩ := (show ObjOk X.prog X.w H s.heap a (.dK kvs) from I.hok a _ ea)
    obtain ⟨o,es,ep,h1,h2,_⟩ := p
    exact PySem.W.kia_one PySem.W.kitx_dict I.kIn ⟨o,h1,h2.1⟩ e (fun z => nomatch z) h
  | @dT a kvs ea =>
    cases (show u = Value.ref a from rx)
    obtain ⟨_,_,xs,_,o,es,ep,h1,h2,_⟩ := (show ObjOk X.prog X.w H s.heap a (.dT kvs) from I.hok a _ ea)
    exact PySem.W.kia_one PySem.W.kitx_dict I.kIn ⟨o,h1,h2.1⟩ e (fun z => nomatch z) h
  | @ins a C dx fs ea cl ha hn htk hm =>
    cases (show u = Value.ref a from rx)
    obtain ⟨mA,O,_⟩ := ins_get I.hok ea
    obtain ⟨od,J,_⟩ := O.look
    exact PySem.W.kia_one (PySem.W.kitx_own (cl.get _) cl.hd ha hn htk hm) I.kIn J e (fun z => nomatch z) h
end
end L2
namespace L2
open PySem PySem.Spec PyProof.Rows
structure Room (k : Nat) (A : Around) : Prop where
  hd : A.handled = none
  dp : A.depth + 3 * k + 5 < recursionLimit
  un : A.units + 16 * k + 200 < cLine
theorem Room.mono {j k : Nat} {A : Around} (r : Room k A) (h : j ≤ k) : Room j A := ⟨r.hd,by have := r.dp; omega,by have := r.un; omega⟩
theorem Room.deeper {k : Nat} {A : Around} (r : Room (k + 1) A) (env : Env) : Room k (A.deeper env) :=
  ⟨r.hd,by have := r.dp; show A.depth + 1 + 3 * k + 5 < _; omega,by have := r.un; show A.units + 3 + 16 * k + 200 < _; omega⟩
theorem Room.depth {k : Nat} {A : Around} (r : Room k A) : A.depth < recursionLimit := by have := r.dp; omega
theorem Room.units0 {k : Nat} {A : Around} (r : Room k A) : A.units < cLine := by have := r.un; omega
def tNil : TA := fun _ H Q => Q [] H
def tCons (ta : TE) (tr : TA) : TA := fun σ H Q => ta σ H fun x H1 => tr σ H1 fun xs H2 => Q (x :: xs) H2
section
variable {X : Cx} {e : Expr} {es : List Expr} {te : TE} {t : TA} {pos : Pos}
theorem pa_nil : PA X [] tNil := fun _ _ _ _ H Q I h => Calls.spliced_nil ⟨[],H,I,.nil,h⟩
theorem pa_cons (ha : PE X e te) (hr : PA X es t) (hs : starEach (e :: es) X.env = (false,eval e X.env) :: starEach es X.env := by rfl) : PA X (e :: es) (tCons te t) := by
  intro pos pins s σ H Q I h
  rw [hs]
  show wpAny _ _ (spliced ((false,eval e X.env) :: backTo pos (starEach es X.env))) _ _ s
  refine Calls.spliced_cons (thn (ha pins s σ H _ I h) fun u s1 ⟨x,H1,I1,r1,q1⟩ => ?_)
  exact thn (hr pos pins s1 σ H1 _ I1 q1) fun us s2 ⟨xs,H2,I2,r2,q2⟩ => ⟨x :: xs,H2,I2,.cons r1 r2,q2⟩
def tTup (t : TA) : TE := fun σ H Q => t σ H fun xs H1 => xs.length ≤ sizeLine ∧ ∀ p,H1 p = none → Q (.ref p) (upd H1 p (.tup xs))
theorem pe_tup {x1} (h : PA X es t) : PE X (.Tuple es x1 pos) (tTup t) := by
  intro pins s σ H Q I hq
  refine wpAny_Tuple_spliced (thn (h pos pins s σ H _ I hq) fun us s1 ⟨xs,H1,I1,r,z,q⟩ => ⟨by rw [← r.length]; exact z,?_⟩)
  have hf : H1 s1.heap.objs.size = none := I1.hok.fresh (Nat.le_refl _)
  refine ⟨.ref s1.heap.objs.size,upd H1 s1.heap.objs.size (.tup xs),I1.laid (t' := s1.toks) (fun b u e => Heap.get?_push_of_some _ e) (Nat.le_refl _) ?_,rfl,q _ hf⟩
  exact ⟨z,us,r,⟨_,Heap.get?_push_size _ rfl,rfl,_,rfl⟩⟩
end
abbrev Sp := List V → Hp → VK → XK → Prop
abbrev CXT := List Env → Hp → Shared → XK → Value → Shared → Prop
structure Env0 (P : Program) (w : World) (K : PySem.W.Frag) (mg : Str → Option Value) (base : Heap) (A : Around) (outer : List Env) (s : Shared) (H : Hp) : Prop where
  frames : A.frames = some outer
  mod : Mod K mg base
  bs : ∀ b o,base.get? b = some o → s.heap.get? b = some o ∧ H b = none
  bsz : base.objs.size ≤ s.heap.objs.size
  funs : s.heap.FunFrames base outer
  frf : ∀ b ∈ frs outer,H b = none
  hok : HOk P w H s.heap
  bare : AllBare s.gens
def CE (outer : List Env) (P : Program) (w : World) (H : Hp) (s : Shared) (Q : VK) (u : Value) (s' : Shared) : Prop :=
  ∃ v H',s'.os = s.os ∧ AllBare s'.gens ∧ Un (frs outer) [] H H' s.heap s'.heap ∧ HOk P w H' s'.heap ∧ RelV v u ∧ Q v H'
def CR (CX : CXT) (outer : List Env) (P : Program) (w : World) (H : Hp) (s : Shared) (Q : VK) (E : XK) (r : Result) (s' : Shared) : Prop :=
  match r with
  | .ok (.ret u) => CE outer P w H s Q u s'
  | .ok _ => False
  | .error e => CX outer H s E e s'
structure FnOk (P : Program) (w : World) (K : PySem.W.Frag) (mg : Str → Option Value) (base : Heap) (CX : CXT) (k : Nat) (f : Addr) (fd : FuncData) (ps : List Str) (sp : Sp) : Prop where
  len : ∀ vs H Q E,sp vs H Q E → vs.length = ps.length
  run : ∀ (A : Around) (outer : List Env) (s : Shared) (H : Hp) (args : Args) (us : List Value) (vs : List V) (Q : VK) (E : XK),Room k A → Env0 P w K mg base A outer s H → BindsTo s fd args (ps.zip us) → Vals vs us → sp vs H Q E →
    codeAny (model P w) A (.call (.ref f) args) (CR CX outer P w H s Q E) s
theorem FnOk.imp {P : Program} {w : World} {K : PySem.W.Frag} {mg : Str → Option Value} {base : Heap} {CX : CXT} {k : Nat} {f : Addr} {fd : FuncData} {ps : List Str} {sp sp' : Sp} (F : FnOk P w K mg base CX k f fd ps sp)
    (h : ∀ vs H Q E,sp' vs H Q E → sp vs H Q E) : FnOk P w K mg base CX k f fd ps sp' :=
  ⟨fun vs H Q E q => F.len vs H Q E (h _ _ _ _ q),fun A outer s H args us vs Q E hr he hb hv hs => F.run A outer s H args us vs Q E hr he hb hv (h _ _ _ _ hs)⟩
section
variable {X : Cx} {pins : List (Addr × Obj)} {σ : St} {H : Hp} {s s' : Shared}
theorem Inv.env0 (I : Inv X pins σ H s) : Env0 X.prog X.w X.K X.mg X.base X.A X.stack s H :=
  ⟨I.ok.frames,I.ok.mod,I.bs,Nat.le_trans I.ok.bsz I.sz,I.stack,I.stkFree,I.hok,I.bare⟩
theorem Inv.after {Q : VK} {u : Value} (I : Inv X pins σ H s) (h : CE X.stack X.prog X.w H s Q u s') : EP X pins σ Q u s' := by
  obtain ⟨v,H',os,bare,un,hok,r,q⟩ := h
  obtain ⟨hh,g,d,t,os'⟩ := s'
  obtain rfl : os' = s.os := os
  exact ⟨v,H',I.call (h' := hh) (g' := g) (d' := d) (t' := t) (ch := []) un hok bare (fun b z => absurd z (by simp)),r,q⟩
end
def tCall (sp : Sp) (dvs : List V) (E : XK) (t : TA) : TE := fun σ H Q => t σ H fun vs H1 => sp (vs ++ dvs) H1 Q E
def Binds (K : PySem.W.Frag) (fd : FuncData) (ps : List Str) (ds : List Value) : Prop :=
  ∀ (s : Shared) (us : List Value),K.In s.heap → (us ++ ds).length = ps.length → BindsTo s fd ⟨us,[]⟩ (ps.zip (us ++ ds))
theorem Binds.all {K : PySem.W.Frag} {fd : FuncData} {ps : List Str} (h : ∀ us : List Value,us.length = ps.length → bindArgs fd ⟨us,[]⟩ = pure (ps.zip us)) : Binds K fd ps [] := fun s us _ hl => by
  rw [List.append_nil] at hl ⊢
  exact .of_eq (h us hl)
def Passes (CX : CXT) (X : Cx) (E : XK) : Prop := ∀ (pins : List (Addr × Obj)) (σ : St) (H : Hp) (s : Shared) (e : Value) (s' : Shared),Inv X pins σ H s → CX X.stack H s E e s' → X.xe e s'
section
variable {X : Cx} {CX : CXT} {k : Nat} {f C : Addr} {fd : FuncData} {ps : List Str} {sp : Sp} {dvs : List V} {ds : List Value} {E : XK} {x m : Str} {p pos apos : Pos} {e o : Expr} {es : List Expr} {ta : TE} {t : TA}
theorem run_fn {pins : List (Addr × Obj)} {σ : St} {H : Hp} {s : Shared} {Q : VK} {us : List Value} {vs : List V} (F : FnOk X.prog X.w X.K X.mg X.base CX k f fd ps sp) (hr : Room k X.A) (hb : Binds X.K fd ps ds) (hd : Vals dvs ds) (hx : Passes CX X E)
    (I : Inv X pins σ H s) (r : Vals vs us) (h : sp (vs ++ dvs) H Q E) : wpAny (model X.prog X.w) X.A (call (.ref f) us) (EP X pins σ Q) X.xe s := by
  have r2 : Vals (vs ++ dvs) (us ++ ds) := r.append hd
  have hl : (us ++ ds).length = ps.length := by rw [← r2.length]; exact F.len _ _ _ _ h
  refine wpAny_call (codeAny_mono (F.run X.A X.stack s H ⟨us,[]⟩ (us ++ ds) (vs ++ dvs) Q E hr I.env0 (hb s us I.kIn hl) r2 h) fun r s' hq => ?_)
  cases r with
  | error e => exact hx pins σ H s e s' I hq
  | ok fl =>
    cases fl with
    | ret u => exact I.after hq
    | next => exact False.elim hq
    | brk => exact False.elim hq
    | cont => exact False.elim hq
theorem pe_call (F : FnOk X.prog X.w X.K X.mg X.base CX k f fd ps sp) (hr : Room k X.A) (hg : Gl X x) (hm : X.mg x = some (.ref f)) (hk : PySem.W.keepIn X.K (.ref f) = true) (hb : Binds X.K fd ps ds) (hd : Vals dvs ds) (hx : Passes CX X E)
    (ha : PA X (e :: es) t) (hdb : (x == ("__debug__" : Str)) = false := by decide) (he : starEach (e :: es) X.env = (false,eval e X.env) :: starEach es X.env := by rfl) (hpl : (backTo pos (starEach es X.env)).any (·.1) = false := by rfl) :
    PE X (.Call (.Name x p) (e :: es) [] pos) (tCall sp dvs E t) := by
  intro pins s σ H Q I h
  refine wpAny_Call_Name_kw (ld_glob I hg hm ?_ hdb)
  refine PySem.W.callWith_K (h₀ := X.base) I.ok.mod.kin hk (thn (ha pos pins s σ H _ I h) fun us s1 ⟨vs,H1,I1,r,q⟩ => ⟨I1.kIn,?_⟩) he hpl
  exact run_fn F hr hb hd hx I1 r q
end
section
variable {X : Cx} {CX : CXT} {k : Nat} {f C : Addr} {fd : FuncData} {ps ks : List Str} {sp : Sp} {E : XK} {x m : Str} {p pos apos kpos : Pos} {e o : Expr} {es : List Expr} {kws : List Keyword} {te ta : TE} {t tk : TA} {nm : Option Str}
variable {g : List Value → List Value → List Value} {gV : List V → List V → List V}
end
structure FnScope (N P : List Str) (sc : Scope) : Prop where
  kind : sc.kind = .function
  co : sc.isCoroutine = false
  gen : sc.isGenerator = false
  nd : N.Nodup
  pre : N.take P.length = P
  par : ∀ x ∈ P,sc.names.lookup x = some .local ∨ sc.names.lookup x = some .cell
  nofree : ∀ y ∈ sc.names,y.2 ≠ .free
theorem bindL_out {kindOf : Str → Option NameKind} {x : Str} : ∀ {binds : List (Str × Value)} {m : Str → Option Value},(∀ v,(x,v) ∉ binds) → bindL kindOf binds m x = m x
  | [],_,_ => rfl
  | (n,v) :: r,m,h => by
    unfold bindL
    rw [bindL_out fun w hw => h w (List.mem_cons_of_mem _ hw)]
    split
    · have : x ≠ n := by rintro rfl; exact h v List.mem_cons_self
      simp [this]
    · rfl
theorem bindC_out {kindOf : Str → Option NameKind} {x : Str} : ∀ {binds : List (Str × Value)} {m : Str → Option Value},(∀ v,(x,v) ∉ binds) → bindC kindOf binds m x = m x
  | [],_,_ => rfl
  | (n,v) :: r,m,h => by
    unfold bindC
    rw [bindC_out fun w hw => h w (List.mem_cons_of_mem _ hw)]
    split
    · rfl
    · have : x ≠ n := by rintro rfl; exact h v List.mem_cons_self
      simp [this]
theorem bindL_get {kindOf : Str → Option NameKind} {x : Str} {v : Value} : ∀ {P : List Str} {vs : List Value} {i : Nat} {m : Str → Option Value},P.Nodup → P[i]? = some x → vs[i]? = some v → kindOf x = some .local →
    bindL kindOf (P.zip vs) m x = some v
  | [],_,_,_,_,h,_,_ => by simp at h
  | _ :: _,[],_,_,_,_,h,_ => by simp at h
  | p :: P,w :: vs,0,m,nd,h1,h2,hk => by
    simp at h1 h2; subst h1; subst h2
    show bindL kindOf ((p,w) :: P.zip vs) m p = _
    unfold bindL
    rw [bindL_out fun v hv => (List.nodup_cons.mp nd).1 (List.of_mem_zip hv).1,if_pos hk]
    simp
  | p :: P,w :: vs,i + 1,m,nd,h1,h2,hk => by
    show bindL kindOf ((p,w) :: P.zip vs) m x = _
    unfold bindL
    exact bindL_get (i := i) (List.nodup_cons.mp nd).2 (by simpa using h1) (by simpa using h2) hk
theorem bindC_get {kindOf : Str → Option NameKind} {x : Str} {v : Value} : ∀ {P : List Str} {vs : List Value} {i : Nat} {m : Str → Option Value},P.Nodup → P[i]? = some x → vs[i]? = some v → kindOf x ≠ some .local →
    bindC kindOf (P.zip vs) m x = some v
  | [],_,_,_,_,h,_,_ => by simp at h
  | _ :: _,[],_,_,_,_,h,_ => by simp at h
  | p :: P,w :: vs,0,m,nd,h1,h2,hk => by
    simp at h1 h2; subst h1; subst h2
    show bindC kindOf ((p,w) :: P.zip vs) m p = _
    unfold bindC
    rw [bindC_out fun v hv => (List.nodup_cons.mp nd).1 (List.of_mem_zip hv).1,if_neg hk]
    simp
  | p :: P,w :: vs,i + 1,m,nd,h1,h2,hk => by
    show bindC kindOf ((p,w) :: P.zip vs) m x = _
    unfold bindC
    exact bindC_get (i := i) (List.nodup_cons.mp nd).2 (by simpa using h1) (by simpa using h2) hk
def start (N : List Str) (vs : List V) : St := vs.map some ++ List.replicate (N.length - vs.length) none
def cxOf (CX : CXT) (P : Program) (w : World) (K : PySem.W.Frag) (mg : Str → Option Value) (base : Heap) (N : List Str) (qual : Str) (scope : Scope) (f : Addr) (cd : Value) (A : Around) (outer : List Env) (s : Shared) (H : Hp) (E : XK) : Cx where
  prog := P
  w := w
  K := K
  mg := mg
  base := base
  A := A.deeper (envOfC qual scope s.heap.objs.size f cd)
  N := N
  s₀ := s
  H₀ := H
  env := envOfC qual scope s.heap.objs.size f cd
  outer := outer
  stack := envOfC qual scope s.heap.objs.size f cd :: outer
  ex := []
  calm := true
  fn := fun _ => true
  pn := []
  xe := fun e s' => wpAny (model P w) (A.deeper (envOfC qual scope s.heap.objs.size f cd)) (leaving (envOfC qual scope s.heap.objs.size f cd) e) (fun _ s'' => CX outer H s E e s'') (fun e' s'' => CX outer H s E e' s'') s'
theorem cell_has {sc : Scope} {n : Nat} {x : Str} (h : sc.names.lookup x = some .cell) : ∃ c,(cellsFrom n sc.names []).lookup x = some c := by
  have q := PySem.W.cellsFrom_some sc.names n [] (.inl h)
  exact Option.isSome_iff_exists.mp q
theorem inv_start {CX : CXT} {P : Program} {w : World} {K : PySem.W.Frag} {mg : Str → Option Value} {base : Heap} {N ps : List Str} {qual : Str} {scope : Scope} {f : Addr} {cd : Value} {A : Around} {outer : List Env} {s s1 : Shared} {H : Hp} {E : XK} {us : List Value} {vs : List V}
    (S : FnScope N ps scope) (hd : A.handled = none) (e0 : Env0 P w K mg base A outer s H) (hl : vs.length = ps.length) (r : Vals vs us)
    (x : InCallC s s.heap.objs.size (bindL (envOfC qual scope s.heap.objs.size f cd).kindOf (ps.zip us) fun _ => none) (cellsFrom (s.heap.objs.size + 1) scope.names []) (bindC (envOfC qual scope s.heap.objs.size f cd).kindOf (ps.zip us) fun _ => none) s1) :
    Inv (cxOf CX P w K mg base N qual scope f cd A outer s H E) [] (start N vs) H s1 := by
  have hpl : ps.length ≤ N.length := by have := congrArg List.length S.pre; rw [List.length_take] at this; omega
  obtain ⟨h1,tk,rfl,hk⟩ := x.done
  have noA : ∀ b : Addr,b ∉ (cxOf CX P w K mg base N qual scope f cd A outer s H E).ex := fun b z => absurd (show b ∈ ([] : List Addr) from z) (by simp)
  refine ⟨⟨e0.mod,S.kind,rfl,rfl,Nat.le_refl _,fun y z c h1 h2 => ?_,fun y hy => ?_,fun y c _ h => ?_,fun _ => hd,Around.frames_deeper e0.frames,.inr ⟨rfl,rfl⟩,fun b z => absurd z (noA b),e0.bs,e0.bsz,fun b _ _ => noA b,fun b z => absurd z (noA b),e0.funs,e0.frf⟩,
    rfl,e0.bare,Un.kept hk,⟨_,x.toInCall.ns,fun i y v h1 h2 h3 => ?_⟩,fun y c h => ⟨_,x.cell y c h⟩,e0.hok.fresh (Nat.le_refl _),fun y c h => ?_,fun p hp => absurd (show p ∈ ([] : List (Addr × Obj)) from hp) (by simp),e0.hok.kept hk,?_⟩
  · exact name_of_addr x.apart (PySem.mem_of_lookup h1) (PySem.mem_of_lookup h2)
  · have hy : scope.names.lookup y = some .cell ∨ scope.names.lookup y = some .free := hy
    rcases hy with hy | hy
    · exact cell_has hy
    · exact absurd rfl (S.nofree _ (PySem.mem_of_lookup hy))
  · exact Nat.le_of_lt (x.above y c (PySem.mem_of_lookup h))
  · have hi : i < vs.length := by
      unfold start at h2
      by_cases hi : i < vs.length
      · exact hi
      · rw [List.getElem?_append_right (by simpa using hi)] at h2
        rw [List.getElem?_replicate] at h2
        split at h2 <;> cases h2
    have ha : vs[i]? = some v := by
      unfold start at h2
      rw [List.getElem?_append_left (by simpa using hi),List.getElem?_map] at h2
      cases e : vs[i]? with
      | none => rw [e] at h2; cases h2
      | some a => rw [e] at h2; cases h2; rfl
    obtain ⟨u,hu,rv⟩ := r.get ha
    have hp : ps[i]? = some y := by
      rw [← S.pre,List.getElem?_take_of_lt (by omega)]; exact h1
    have ndP : ps.Nodup := by rw [← S.pre]; exact S.nd.sublist (List.take_sublist _ _)
    refine ⟨u,rv,?_⟩
    rcases S.par y (List.mem_of_getElem? hp) with k | k
    · exact .inl ⟨k,bindL_get ndP hp hu k⟩
    · obtain ⟨c,e⟩ := cell_has (n := s.heap.objs.size + 1) k
      refine .inr ⟨.inl k,c,e,?_⟩
      have q := x.cell y c e
      rw [bindC_get ndP hp hu (by show scope.names.lookup y ≠ _; rw [k]; decide)] at q
      exact q
  · exact e0.hok.fresh (Nat.le_of_lt (x.above y c (PySem.mem_of_lookup h)))
  · unfold start
    show _ = N.length
    rw [List.length_append,List.length_map,List.length_replicate]
    omega
theorem fn_of {CX : CXT} {P : Program} {w : World} {K : PySem.W.Frag} {mg : Str → Option Value} {base : Heap} {k : Nat} {f : Addr} {name qual : Str} {params : Arguments} {body : List Stmt} {scope : Scope} {dV kV doc pm cdv ct oc : Value} {an od : Option Addr}
    {osl : Array (Option Value)} {N ps : List Str} {sp : Sp} (lk : K.lookup f = some ⟨oc,od,.func (PySem.W.fnOf name qual params body scope dV kV doc pm an cdv ct),osl⟩) (hcd : PySem.W.codeIn K cdv qual = true) (S : FnScope N ps scope)
    (len : ∀ vs H Q E,sp vs H Q E → vs.length = ps.length)
    (hbody : ∀ (A : Around) (outer : List Env) (s : Shared) (H : Hp) (vs : List V) (Q : VK) (E : XK),Room k (A.deeper (envOfC qual scope s.heap.objs.size f cdv)) → sp vs H Q E →
      ∃ t,PSs (cxOf CX P w K mg base N qual scope f cdv A outer s H E) body t ∧ t { nx := fun _ H' => Q .non H',rt := Q } (start N vs) H) :
    FnOk P w K mg base CX (k + 1) f (PySem.W.fnOf name qual params body scope dV kV doc pm an cdv ct) ps sp := by
  refine ⟨len,fun A outer s H args us vs Q E hr e0 hb r hsp => ?_⟩
  have hl := len _ _ _ _ hsp
  have KX : K.In s.heap := e0.mod.kin.keeps fun b o e => (e0.bs b o e).1
  have lim : s.heap.NoLimit := e0.mod.nolimit.keeps fun b o e => (e0.bs b o e).1
  have hkind : ∀ y ∈ ps.zip us,scope.names.lookup y.1 = some .local ∨ (scope.names.lookup y.1 = some .cell ∧ ((cellsFrom (s.heap.objs.size + 1) scope.names []).lookup y.1).isSome = true) := fun ⟨n,v⟩ hy => by
    rcases S.par n (List.of_mem_zip hy).1 with q | q
    · exact .inl q
    · exact .inr ⟨q,PySem.W.cellsFrom_some _ _ _ (.inl q)⟩
  refine codeAny_call_function hr.depth (KX _ _ lk) rfl S.co S.gen rfl (PySem.W.codeRec_of KX hcd) (hb _ _ _ _ ?_)
  refine wpAny_newFunctionEnv_cells S.kind hkind fun env he s1 x => ?_
  subst he
  refine ⟨lim.keeps x.toInCall.keep,codeAny_func ?_⟩
  obtain ⟨t,ht,hq⟩ := hbody A outer s H vs Q E (hr.deeper _) hsp
  have I : Inv (cxOf CX P w K mg base N qual scope f cdv A outer s H E) [] (start N vs) H s1 := inv_start S hr.hd e0 hl r x
  refine wpAny_mono (ht [] s1 (start N vs) H _ I hq) (fun fl s' hs => ?_) fun e s' hs => hs
  have fin : ∀ {σ' : St} {H' : Hp} {v : V} {u : Value},Inv (cxOf CX P w K mg base N qual scope f cdv A outer s H E) [] σ' H' s' → RelV v u → Q v H' → CE outer P w H s Q u s' :=
    fun {σ' H' v u} J rv q => ⟨v,H',J.os,J.bare,J.base,J.hok,rv,q⟩
  cases fl with
  | ret u =>
    obtain ⟨v,σ',H',J,rv,q⟩ := hs
    exact fin J rv q
  | next =>
    obtain ⟨σ',H',J,q⟩ := hs
    exact fin (v := V.non) (u := Value.none) J rfl q
  | brk =>
    obtain ⟨_,_,_,q⟩ := hs
    exact False.elim q
  | cont =>
    obtain ⟨_,_,_,q⟩ := hs
    exact False.elim q
end L2
namespace L2
open PySem PySem.Spec PyProof.Rows
section
variable {X : Cx} {x : Str} {p pos : Pos} {e : Expr} {es : List Expr} {t : TA} {id T : String} {r : List V → Hp → VK → Prop}
def tCB (r : List V → Hp → VK → Prop) (t : TA) : TE := fun σ H Q => t σ H fun vs H1 => r vs H1 Q
theorem pe_callB (hc : CallR X (.builtin id) r) (hg : Gl X x) (hm : X.mg x = none) (hv : bootBuiltins x = some (.builtin id)) (ha : PA X (e :: es) t) (hn : x ≠ "__name__" := by decide) (hdb : (x == ("__debug__" : Str)) = false := by decide)
    (he : starEach (e :: es) X.env = (false,eval e X.env) :: starEach es X.env := by rfl) (hpl : (backTo pos (starEach es X.env)).any (·.1) = false := by rfl) : PE X (.Call (.Name x p) (e :: es) [] pos) (tCB r t) := by
  intro pins s σ H Q I h
  refine wpAny_Call_Name_kw (ld_blt I hg hm hv ?_ hn hdb)
  exact PyProof.Rows.callWith_builtin1 (thn (ha pos pins s σ H _ I h) fun us s1 ⟨vs,H1,I1,r1,q1⟩ => hc pins s1 σ H1 vs us Q I1 r1 q1) he hpl
theorem pe_callTy (hc : CallR X (.type T) r) (hg : Gl X x) (hm : X.mg x = none) (hv : bootBuiltins x = some (.type T)) (ha : PA X (e :: es) t) (hn : x ≠ "__name__" := by decide) (hdb : (x == ("__debug__" : Str)) = false := by decide)
    (he : starEach (e :: es) X.env = (false,eval e X.env) :: starEach es X.env := by rfl) (hpl : (backTo pos (starEach es X.env)).any (·.1) = false := by rfl) : PE X (.Call (.Name x p) (e :: es) [] pos) (tCB r t) := by
  intro pins s σ H Q I h
  refine wpAny_Call_Name_kw (ld_blt I hg hm hv ?_ hn hdb)
  exact PyProof.Rows.callWith_type1 (thn (ha pos pins s σ H _ I h) fun us s1 ⟨vs,H1,I1,r1,q1⟩ => hc pins s1 σ H1 vs us Q I1 r1 q1) he hpl
end
end L2
namespace HT
open PySem PyProof.Rows
section
open PySem.SeqAt
open PySem.AutoSeq1 (wpAny_loadPart')
open PySem.MeetsSeq PySem.MeetsSeq2 PySem.MeetsSeq3
end
section
variable {prog : Program} {w : World} {A : Around} {E : Value → Shared → Prop} {s : Shared}
def sIx (n d : Nat) : Option Int → Nat
  | none => d
  | some v => if v < 0 then (v + (n : Int)).toNat else min v.toNat n
theorem sIx_none (n d : Nat) : sIx n d none = d := rfl
theorem sIx_nat (n d k : Nat) : sIx n d (some (k : Int)) = min k n := by
  show (if (k : Int) < 0 then ((k : Int) + (n : Int)).toNat else min (k : Int).toNat n) = min k n
  rw [if_neg (by omega),Int.toNat_natCast]
end
end HT
namespace L2
open PySem PySem.Spec PyProof.Rows
abbrev TO := St → Hp → (Option Int → Hp → Prop) → Prop
def PO (X : Cx) (e : Option Expr) (t : TO) : Prop :=
  ∀ (pins : List (Addr × Obj)) (s : Shared) (σ : St) (H : Hp) (Q : Option Int → Hp → Prop),Inv X pins σ H s → t σ H Q →
    wpAny (model X.prog X.w) X.A (evalPart e X.env) (fun u s' => ∃ o H',Inv X pins σ H' s' ∧ IsPart u o ∧ Q o H') X.xe s
def tNoPart : TO := fun _ H Q => Q none H
def tPart (t : TE) : TO := fun σ H Q => t σ H fun x H1 => ∃ i,x = .int i ∧ Q (some i) H1
section
variable {X : Cx} {e : Expr} {te : TE} {lo hi : Option Expr} {tl th : TO} {pos p2 : Pos}
theorem po_none : PO X none tNoPart := by
  intro pins s σ H Q I h
  rw [evalPart_none]
  exact wpAny_pure ⟨none,H,I,.none,h⟩
theorem po_some (h : PE X e te) : PO X (some e) (tPart te) := by
  intro pins s σ H Q I hw
  rw [evalPart_some]
  refine thn (h pins s σ H _ I hw) fun u s1 ⟨x,H1,I1,r1,q1⟩ => ?_
  obtain ⟨i,rfl,q⟩ := q1
  obtain ⟨t,rfl⟩ := r1
  exact ⟨some i,H1,I1,.int i t,q⟩
def SlR (X : Cx) (r : V → Option Int → Option Int → Hp → VK → Prop) : Prop :=
  ∀ (pins : List (Addr × Obj)) (s : Shared) (σ : St) (H : Hp) (x : V) (v vl vu : Value) (lo hi : Option Int) (sl : Addr) (Q : VK),Inv X pins σ H s → RelV x v → s.heap.IsSliceOf sl vl vu .none → IsPart vl lo → IsPart vu hi → r x lo hi H Q →
    ∃ T id,typeLookup (.type T) "__getitem__" = pure (some (.builtin id)) ∧ s.TypeIs v T ∧ wpAny (model X.prog X.w) X.A (getItem v (.ref sl)) (EP X pins σ Q) X.xe s
def tSl (r : V → Option Int → Option Int → Hp → VK → Prop) (te : TE) (tl th : TO) : TE := fun σ H Q => te σ H fun x H1 => tl σ H1 fun l H2 => th σ H2 fun u H3 => r x l u H3 Q
theorem pe_slice {r : V → Option Int → Option Int → Hp → VK → Prop} (hr : SlR X r) (he : PE X e te) (hl : PO X lo tl) (hu : PO X hi th) : PE X (.Subscript e (.Slice lo hi none p2) pos) (tSl r te tl th) := by
  intro pins s σ H Q I h
  refine Subscript_ (thn (he pins s σ H _ I h) fun v s1 ⟨x,H1,I1,r1,q1⟩ => ?_)
  refine wpAny_Slice (thn (hl pins s1 σ H1 _ I1 q1) fun vl s2 ⟨l,H2,I2,pl,q2⟩ => thn (hu pins s2 σ H2 _ I2 q2) fun vu s3 ⟨u,H3,I3,pu,q3⟩ => ?_)
  rw [evalPart_none]
  refine wpAny_pure ?_
  have I4 : Inv X pins σ H3 { s3 with heap := s3.heap.push { cls := .type "slice",data := .fields #[vl,vu,.none] } } := I3.kept (t' := s3.toks) fun b ob q => Heap.get?_push_of_some _ q
  obtain ⟨T,id,hT,ht,hg⟩ := hr pins { s3 with heap := s3.heap.push { cls := .type "slice",data := .fields #[vl,vu,.none] } } σ H3 x v vl vu l u s3.heap.objs.size Q I4 r1 (Heap.IsSliceOf.new ..) pl pu q3
  show wpAny (model X.prog X.w) X.A (subscriptTail e (.Slice lo hi none p2) v (.ref s3.heap.objs.size)) (EP X pins σ Q) X.xe { s3 with heap := s3.heap.push { cls := .type "slice",data := .fields #[vl,vu,.none] } }
  exact tail_any (ops := [.ref s3.heap.objs.size,v]) ht hT hg (by with_unfolding_all rfl)
def cutV (xs : List V) (lo hi : Option Int) : List V := (xs.drop (HT.sIx xs.length 0 lo)).take (HT.sIx xs.length xs.length hi - HT.sIx xs.length 0 lo)
theorem cutV_length (xs : List V) (lo hi : Option Int) : (cutV xs lo hi).length ≤ xs.length := by
  unfold cutV
  rw [List.length_take,List.length_drop]
  omega
end
end L2
namespace L2
open PySem PySem.Spec PyProof.Rows
def ixN (n : Nat) (i : Int) : Option Nat := if 0 ≤ i then (if i < n then some i.toNat else none) else if -(n : Int) ≤ i then some (i + n).toNat else none
def atI {α : Type} (xs : List α) (i : Int) : Option α := (ixN xs.length i).bind fun j => xs[j]?
theorem ixN_seq {n : Nat} {i : Int} {j : Nat} (h : ixN n i = some j) : seqIndex? i n = some j ∧ j < n ∧ -(n : Int) ≤ i ∧ i < n := by
  unfold ixN at h
  by_cases h0 : 0 ≤ i
  · rw [if_pos h0] at h
    by_cases h1 : i < n
    · rw [if_pos h1] at h
      have e : i.toNat = j := Option.some.inj h
      exact ⟨by rw [seqIndex_of h0 h1,e],by omega,by omega,h1⟩
    · rw [if_neg h1] at h; cases h
  · rw [if_neg h0] at h
    by_cases h1 : -(n : Int) ≤ i
    · rw [if_pos h1] at h
      have e : (i + n).toNat = j := Option.some.inj h
      exact ⟨by rw [seqIndex_neg (by omega) h1,e],by omega,h1,by omega⟩
    · rw [if_neg h1] at h; cases h
theorem atI_get {α : Type} {xs : List α} {i : Int} {v : α} (h : atI xs i = some v) : ∃ j,seqIndex? i xs.length = some j ∧ xs[j]? = some v ∧ j < xs.length ∧ -(xs.length : Int) ≤ i ∧ i < xs.length := by
  unfold atI at h
  cases e : ixN xs.length i with
  | none => rw [e] at h; cases h
  | some j =>
    rw [e] at h
    obtain ⟨h1,h2,h3,h4⟩ := ixN_seq e
    exact ⟨j,h1,h,h2,h3,h4⟩
theorem atI_nat {α : Type} {xs : List α} {j : Nat} {v : α} (h : xs[j]? = some v) : atI xs (j : Int) = some v := by
  have hj : j < xs.length := (List.getElem?_eq_some_iff.mp h).1
  have e : ixN xs.length (j : Int) = some j := by
    unfold ixN
    rw [if_pos (by omega),if_pos (by omega)]; simp
  unfold atI; rw [e]; exact h
theorem atI_last {α : Type} (xs : List α) (v : α) : atI (xs ++ [v]) (-1) = some v := by
  have hl : (xs ++ [v]).length = xs.length + 1 := by simp
  have e : ixN (xs ++ [v]).length (-1) = some xs.length := by
    unfold ixN
    rw [hl,if_neg (by decide),if_pos (by omega)]
    congr 1
    omega
  unfold atI
  rw [e]
  show (xs ++ [v])[xs.length]? = some v
  simp
def PlainIx (b : Expr) : Prop := ∀ o i,subscripted b false o i = operate [o,i] (getItem o i)
def IxR (X : Cx) (r : R2) : Prop :=
  ∀ (value slice : Expr) (pins : List (Addr × Obj)) (s : Shared) (σ : St) (H : Hp) (x y : V) (v u : Value) (Q : VK),Inv X pins σ H s → RelV x v → RelV y u → r x y H Q →
    subscripted slice false v u = operate [v,u] (getItem v u) → wpAny (model X.prog X.w) X.A (subscriptTail value slice v u) (EP X pins σ Q) X.xe s
def MtR (X : Cx) (id : String) (r : V → List V → Hp → VK → Prop) : Prop :=
  ∀ (pins : List (Addr × Obj)) (s : Shared) (σ : St) (H : Hp) (x : V) (xs : List V) (v : Value) (us : List Value) (Q : VK),Inv X pins σ H s → RelV x v → Vals xs us → r x xs H Q →
    wpAny (model X.prog X.w) X.A (call (.builtin id) (v :: us)) (EP X pins σ Q) X.xe s
section
variable {X : Cx} {a b : Expr} {ta tb : TE} {pos : Pos}
theorem pe_ix {r : R2} (hr : IxR X r) (ha : PE X a ta) (hb : PE X b tb) (hs : PlainIx b) : PE X (.Subscript a b pos) (tOp r ta tb) := by
  intro pins s σ H Q I h
  exact Subscript_ (binT ha hb I h fun v u s2 x y H2 I2 rx ry q => hr a b pins s2 σ H2 x y v u Q I2 rx ry q (hs _ _))
def rIxL (K : PySem.W.Frag) : R2 := fun x y H Q => ∃ p xs i v,x = .ref p ∧ y = .int i ∧ SqL K H p xs ∧ atI xs i = some v ∧ Q v H
def rIxT (K : PySem.W.Frag) : R2 := fun x y H Q => ∃ p xs i v,x = .ref p ∧ y = .int i ∧ SqT K H p xs ∧ atI xs i = some v ∧ Q v H
theorem ix_list : IxR X (rIxL X.K) := by
  intro value slice pins s σ H x y v u Q I rx ry h hs
  obtain ⟨p,xs,i,z,rfl,rfl,hq,he,q⟩ := h
  cases rx
  obtain ⟨t,rfl⟩ := ry
  obtain ⟨its,r,pl,hz⟩ := I.list hq
  obtain ⟨j,h1,h2,h3,h4,h5⟩ := atI_get he
  obtain ⟨w,ew,rw'⟩ := r.get h2
  have hl := r.length
  have hn := line63
  have fin : EP X pins σ Q w s := ⟨z,H,I,rw',q⟩
  by_cases h0 : 0 ≤ i
  · have hj : i.toNat = j := by
      rw [seqIndex_of h0 h5] at h1
      exact Option.some.inj h1
    exact item_listR pl.isList h0 (by omega) (by rw [hj]; simpa using ew) fin hs
  · have hj : (i + (its.toArray.size : Int)).toNat = j := by
      rw [seqIndex_neg (by omega) h4] at h1
      rw [List.size_toArray,← hl]
      exact Option.some.inj h1
    exact subscriptTail_builtinR (x := w) pl.isList.typeIs slot_list_getitem.lookup
      (wpAny_getItem_list_neg (Q := fun r s' => r = w ∧ EP X pins σ Q r s') pl.isList (by omega) (by rw [List.size_toArray] <;> omega) (by omega) (by rw [hj]; simpa using ew) ⟨rfl,fin⟩) hs
theorem ix_tup : IxR X (rIxT X.K) := by
  intro value slice pins s σ H x y v u Q I rx ry h hs
  obtain ⟨p,xs,i,z,rfl,rfl,hq,he,q⟩ := h
  cases rx
  obtain ⟨t,rfl⟩ := ry
  obtain ⟨its,r,pl,hz⟩ := I.tuple hq
  obtain ⟨j,h1,h2,h3,h4,h5⟩ := atI_get he
  obtain ⟨w,ew,rw'⟩ := r.get h2
  have hl := r.length
  have hn := line63
  have fin : EP X pins σ Q w s := ⟨z,H,I,rw',q⟩
  exact subscriptTail_builtinR (x := w) pl.typeIs slot_tuple_getitem.lookup
    (getItem_tuple (j := j) (Q := fun r s' => r = w ∧ EP X pins σ Q r s') pl (by omega) (by omega) (by rw [List.size_toArray,← hl]; exact h1) (by simpa using ew) ⟨rfl,fin⟩) hs
theorem mapSeq_set (its : List Value) (n j : Nat) (u : Value) : Obj.mapSeq (·.setIfInBounds j u) { cls := .type "list",data := .seq its.toArray n } = { cls := .type "list",data := .seq (its.set j u).toArray n } := by
  simp [Obj.mapSeq]
theorem Inv.lst {pins : List (Addr × Obj)} {σ : St} {H : Hp} {s : Shared} {p : Addr} {xs : List V} (I : Inv X pins σ H s) (h : H p = some (.lst xs)) :
    ∃ (its : List Value) (n : Nat),Vals xs its ∧ s.heap.get? p = some { cls := .type "list",data := .seq its.toArray n } ∧ xs.length ≤ sizeLine := by
  obtain ⟨z,its,n,r,e⟩ := I.hok p _ h
  exact ⟨its,n,r,e,z⟩
theorem Inv.lstUpd {pins : List (Addr × Obj)} {σ : St} {H : Hp} {s : Shared} {p : Addr} {xs ys : List V} {its its' : List Value} {n n' : Nat} {f : Obj → Obj} (I : Inv X pins σ H s) (h : H p = some (.lst xs))
    (ho : s.heap.get? p = some { cls := .type "list",data := .seq its.toArray n }) (hf : f { cls := .type "list",data := .seq its.toArray n } = { cls := .type "list",data := .seq its'.toArray n' }) (r : Vals ys its') (hz : ys.length ≤ sizeLine) (t : Nat) :
    Inv X pins σ (upd H p (.lst ys)) { s with heap := s.heap.update p f,toks := t } := by
  have e : (s.heap.update p f).get? p = some { cls := .type "list",data := .seq its'.toArray n' } := by
    rw [Heap.get?_update_self f ho (by rw [hf] <;> rfl),hf]
  refine I.write (x := p) (e := p) (by rw [h]; trivial) (.inl rfl) (fun b u hb q => (Heap.get?_update_other _ _ (Ne.symm hb)).trans q) ⟨_,e⟩ ?_
  exact ⟨hz,its',n',r,e⟩
def rSetL : V → V → V → Hp → (Hp → Prop) → Prop := fun o i v H Q => ∃ p xs k j,o = .ref p ∧ i = .int k ∧ H p = some (.lst xs) ∧ ixN xs.length k = some j ∧ Q (upd H p (.lst (xs.set j v)))
theorem set_list : PSet X rSetL := by
  intro pins s σ H o i v ov iv u Q I ro ri rv h
  obtain ⟨p,xs,k,j,rfl,rfl,hp,hj,q⟩ := h
  cases ro
  obtain ⟨t,rfl⟩ := ri
  obtain ⟨its,n,r,ho,hz⟩ := I.lst hp
  obtain ⟨h1,h2,h3,h4⟩ := ixN_seq hj
  have hl := r.length
  have hn := line63
  have I' : Inv X pins σ (upd H p (.lst (xs.set j v))) { s with heap := s.heap.update p (Obj.mapSeq (·.setIfInBounds j u)) } :=
    I.lstUpd hp ho (mapSeq_set its n j u) (r.set rv j) (by rw [List.length_set]; exact hz) s.toks
  by_cases h0 : 0 ≤ k
  · have hk : k.toNat = j := by
      rw [seqIndex_of h0 h4] at h1
      exact Option.some.inj h1
    exact PySem.W.ki_setAt ho h0 (by omega) (by rw [List.size_toArray,← hl]; exact h4) (by rw [hk]; exact ⟨_,I',q⟩)
  · have hk : (k + (its.toArray.size : Int)).toNat = j := by
      rw [seqIndex_neg (by omega) h3] at h1
      rw [List.size_toArray,← hl]
      exact Option.some.inj h1
    exact PySem.W.ki_setBack ho (by omega) (by rw [List.size_toArray,← hl]; exact h3) (by omega) (by rw [hk]; exact ⟨_,I',q⟩)
theorem slice_bounds (lo hi : Option Int) (n : Nat) : (sliceBounds lo hi none n).1 = ((HT.sIx n 0 lo : Nat) : Int) ∧ (sliceBounds lo hi none n).2.1 = ((HT.sIx n n hi : Nat) : Int) ∧ (sliceBounds lo hi none n).2.2 = 1 := by
  refine ⟨?_,?_,rfl⟩
  · cases lo with
    | none => simp [sliceBounds,HT.sIx]
    | some i =>
      simp only [sliceBounds,HT.sIx,Option.getD_none,show (1 : Int) > 0 by decide,if_true]
      by_cases h : i < 0
      · simp only [h,if_true] <;> omega
      · simp only [h,if_false] <;> omega
  · cases hi with
    | none => simp [sliceBounds,HT.sIx]
    | some i =>
      simp only [sliceBounds,HT.sIx,Option.getD_none,show (1 : Int) > 0 by decide,if_true]
      by_cases h : i < 0
      · simp only [h,if_true] <;> omega
      · simp only [h,if_false] <;> omega
theorem slicePick_cut (its : List Value) (lo hi : Option Int) : slicePick its.toArray lo hi none = ((its.drop (HT.sIx its.length 0 lo)).take (HT.sIx its.length its.length hi - HT.sIx its.length 0 lo)).toArray := by
  obtain ⟨h1,h2,h3⟩ := slice_bounds lo hi its.toArray.size
  unfold slicePick
  rw [h1,h2,h3]
  simp only [sliceRange_one,pick_run,List.size_toArray] <;> rfl
def rSlL (K : PySem.W.Frag) : V → Option Int → Option Int → Hp → VK → Prop := fun x lo hi H Q => ∃ a xs,x = .ref a ∧ SqL K H a xs ∧ ∀ p,H p = none → Q (.ref p) (upd H p (.lst (cutV xs lo hi)))
theorem sl_list : SlR X (rSlL X.K) := by
  intro pins s σ H x v vl vu lo hi sl Q I rx hs pl pu h
  obtain ⟨a,xs,rfl,hx,q⟩ := h
  cases rx
  obtain ⟨its,r,ht,hz⟩ := I.list hx
  have hlen := r.length
  refine ⟨"list",_,slot_list_getitem.lookup,ht.isList.typeIs,?_⟩
  refine wpAny_getItem_list_slice ht.isList hs pl pu .none (by simp) ?_ (by rw [List.size_toArray] <;> omega)
  rw [slicePick_cut,← hlen]
  refine ⟨.ref s.heap.objs.size,_,I.laid (t' := s.toks) (o := .lst (cutV xs lo hi)) (fun b ob q => Heap.get?_push_of_some _ q) (Nat.le_refl _) ?_,rfl,q _ (I.hok.fresh (Nat.le_refl _))⟩
  exact ⟨Nat.le_trans (cutV_length xs lo hi) hz,_,0,(r.drop (HT.sIx xs.length 0 lo)).take (HT.sIx xs.length xs.length hi - HT.sIx xs.length 0 lo),Heap.get?_push_size _ rfl⟩
def flatV : V → Bool
  | .non => true
  | .bl _ => true
  | .int _ => true
  | .str _ => true
  | _ => false
def eqV : V → V → Bool
  | .non,.non => true
  | .bl a,.bl b => a == b
  | .bl a,.int b => (if a then 1 else 0) == b
  | .int a,.bl b => a == (if b then 1 else 0)
  | .int a,.int b => a == b
  | .str a,.str b => a == b
  | _,_ => false
theorem eqAt_V {A : Around} {s : Shared} {y x : V} {u v : Value} (ry : RelV y u) (rx : RelV x v) (fy : flatV y = true) (fx : flatV x = true) : SeqAt.EqAt A s u v (eqV y x) := by
  cases y with
  | non =>
    cases ry
    cases x with
    | non => cases rx; exact SeqAt.EqAt.same _
    | bl b => cases rx; exact SeqAt.EqAt.none_bool b
    | int b => obtain ⟨t,rfl⟩ := rx; exact SeqAt.EqAt.none_int b t
    | str b => obtain ⟨t,rfl⟩ := rx; exact SeqAt.EqAt.none_str b t
    | _ => exact absurd (show false = true from fx) Bool.false_ne_true
  | bl a =>
    cases ry
    cases x with
    | non => cases rx; exact SeqAt.EqAt.bool_none a
    | bl b => cases rx; exact SeqAt.EqAt.bool_bool a b
    | int b => obtain ⟨t,rfl⟩ := rx; exact SeqAt.EqAt.bool_int a b t
    | str b => obtain ⟨t,rfl⟩ := rx; exact SeqAt.EqAt.bool_str a b t
    | _ => exact absurd (show false = true from fx) Bool.false_ne_true
  | int a =>
    obtain ⟨t',rfl⟩ := ry
    cases x with
    | non => cases rx; exact SeqAt.EqAt.int_none a t'
    | bl b => cases rx; exact SeqAt.EqAt.int_bool a t' b
    | int b => obtain ⟨t,rfl⟩ := rx; exact SeqAt.EqAt.int_int a t' b t
    | str b => obtain ⟨t,rfl⟩ := rx; exact SeqAt.EqAt.int_str a t' b t
    | _ => exact absurd (show false = true from fx) Bool.false_ne_true
  | str a =>
    obtain ⟨t',rfl⟩ := ry
    cases x with
    | non => cases rx; exact SeqAt.EqAt.str_none a t'
    | bl b => cases rx; exact SeqAt.EqAt.str_bool a t' b
    | int b => obtain ⟨t,rfl⟩ := rx; exact SeqAt.EqAt.str_int a t' b t
    | str b => obtain ⟨t,rfl⟩ := rx; exact SeqAt.EqAt.str_str a t' b t
    | _ => exact absurd (show false = true from fx) Bool.false_ne_true
  | _ => exact absurd (show false = true from fy) Bool.false_ne_true
def eqU (x : V) (u : Value) : Bool := match u with
  | .none => eqV .non x
  | .bool b => eqV (.bl b) x
  | .int i _ => eqV (.int i) x
  | .str z _ => eqV (.str z) x
  | _ => false
theorem eqU_of {x y : V} {u : Value} (r : RelV y u) (f : flatV y = true) : eqU x u = eqV y x := by
  cases y with
  | non => cases r; rfl
  | bl b => cases r; rfl
  | int i => obtain ⟨t,rfl⟩ := r; rfl
  | str z => obtain ⟨t,rfl⟩ := r; rfl
  | _ => exact absurd (show false = true from f) Bool.false_ne_true
theorem any_eqU {x : V} : ∀ {xs : List V} {us : List Value},Vals xs us → xs.all flatV = true → us.any (eqU x) = xs.any fun y => eqV y x
  | _,_,.nil,_ => rfl
  | y :: xs,u :: us,.cons r t,f => by
    rw [List.all_cons,Bool.and_eq_true] at f
    rw [List.any_cons,List.any_cons,eqU_of r f.1,any_eqU t f.2]
theorem mem_eqAt {A : Around} {s : Shared} {x : V} {v : Value} (rx : RelV x v) (fx : flatV x = true) : ∀ {xs : List V} {us : List Value},Vals xs us → xs.all flatV = true → ∀ u ∈ us,SeqAt.EqAt A s u v (eqU x u)
  | _,_,.nil,_ => fun u hu => by cases hu
  | y :: xs,u :: us,.cons r t,f => fun u' hu => by
    rw [List.all_cons,Bool.and_eq_true] at f
    rcases List.mem_cons.mp hu with rfl | hu
    · rw [eqU_of r f.1]; exact eqAt_V r rx f.1 fx
    · exact mem_eqAt rx fx t f.2 u' hu
def inV (x : V) (xs : List V) : Bool := xs.any fun y => eqV y x
def rIn (K : PySem.W.Frag) (neg : Bool) : R2 := fun x y H Q => ∃ p xs,y = .ref p ∧ (SqL K H p xs ∨ SqT K H p xs) ∧ flatV x = true ∧ xs.all flatV = true ∧ Q (.bl (if neg then !inV x xs else inV x xs)) H
theorem op_in_seq : OpR X (compareOp .In) (rIn X.K false) := by
  intro pins s σ H x y v u Q I rx ry h
  obtain ⟨p,xs,rfl,hq,fx,fs,q⟩ := h
  cases ry
  rcases hq with hq | hq
  · obtain ⟨its,r,pl,hz⟩ := I.list hq
    refine SeqAt.in_listAt (eqU x) pl.isList (fun w hw => mem_eqAt rx fx r fs w (by simpa using hw)) ⟨.bl _,H,I,rfl,?_⟩
    rw [show its.toArray.any (eqU x) = its.any (eqU x) by simp,any_eqU r fs]
    exact q
  · obtain ⟨its,r,pl,hz⟩ := I.tuple hq
    refine SeqAt.in_tupleAt (eqU x) pl (fun w hw => mem_eqAt rx fx r fs w (by simpa using hw)) ⟨.bl _,H,I,rfl,?_⟩
    rw [show its.toArray.any (eqU x) = its.any (eqU x) by simp,any_eqU r fs]
    exact q
theorem op_notIn_seq : OpR X (compareOp .NotIn) (rIn X.K true) := by
  intro pins s σ H x y v u Q I rx ry h
  obtain ⟨p,xs,rfl,hq,fx,fs,q⟩ := h
  cases ry
  rcases hq with hq | hq
  · obtain ⟨its,r,pl,hz⟩ := I.list hq
    refine SeqAt.notIn_listAt (eqU x) pl.isList (fun w hw => mem_eqAt rx fx r fs w (by simpa using hw)) ⟨.bl _,H,I,rfl,?_⟩
    rw [show its.toArray.any (eqU x) = its.any (eqU x) by simp,any_eqU r fs]
    exact q
  · obtain ⟨its,r,pl,hz⟩ := I.tuple hq
    refine SeqAt.notIn_tupleAt (eqU x) pl (fun w hw => mem_eqAt rx fx r fs w (by simpa using hw)) ⟨.bl _,H,I,rfl,?_⟩
    rw [show its.toArray.any (eqU x) = its.any (eqU x) by simp,any_eqU r fs]
    exact q
theorem call_len_seq : CallR X (.builtin "len") (fun xs H Q => ∃ p ys,xs = [.ref p] ∧ (SqL X.K H p ys ∨ SqT X.K H p ys) ∧ Q (.int ys.length) H) := by
  intro pins s σ H xs us Q I r h
  obtain ⟨p,ys,rfl,hq,q⟩ := h
  obtain ⟨u,rfl,rx⟩ := vals1 r
  cases rx
  have hn := line63
  rcases hq with hq | hq
  · obtain ⟨its,r',pl,hz⟩ := I.list hq
    have hlen := r'.length
    exact Calls.call_len_list pl.isList (by simp only [List.size_toArray] <;> omega) ⟨.int ys.length,H,I.tok _,⟨s.toks + 1,by rw [List.size_toArray,hlen]⟩,q⟩
  · obtain ⟨its,r',pl,hz⟩ := I.tuple hq
    have hlen := r'.length
    exact len_tuple pl (by simp only [List.size_toArray] <;> omega) ⟨.int ys.length,H,I.tok _,⟨s.toks + 1,by rw [List.size_toArray,hlen]⟩,q⟩
theorem call_len_str : CallR X (.builtin "len") (fun xs H Q => ∃ z,xs = [.str z] ∧ z.length ≤ sizeLine ∧ Q (.int z.length) H) := by
  intro pins s σ H xs us Q I r h
  obtain ⟨z,rfl,hz,q⟩ := h
  obtain ⟨u,rfl,t,rfl⟩ := vals1 r
  have hn := line63
  exact len_str (by omega) ⟨.int z.length,H,I.tok _,⟨_,rfl⟩,q⟩
theorem call_list_of : CallR X (.type "list") (fun xs H Q => ∃ p ys,xs = [.ref p] ∧ (SqL X.K H p ys ∨ SqT X.K H p ys) ∧ ∀ l,H l = none → Q (.ref l) (upd H l (.lst ys))) := by
  intro pins s σ H xs us Q I r h
  obtain ⟨p,ys,rfl,hq,q⟩ := h
  obtain ⟨u,rfl,rx⟩ := vals1 r
  cases rx
  have fin : ∀ (its : List Value),Vals ys its → ys.length ≤ sizeLine → ∀ (h' : Heap) (c' : Nat),(∀ b o',s.heap.get? b = some o' → h'.get? b = some o') →
      h'.get? s.heap.objs.size = some { cls := .type "list",dict := none,data := .seq its.toArray c',slots := #[] } → EP X pins σ Q (.ref s.heap.objs.size) { s with heap := h' } := fun its r' hz h' c' kp e =>
    ⟨.ref s.heap.objs.size,_,I.laid (t' := s.toks) kp (Nat.le_refl _) (show ObjOk X.prog X.w _ h' _ (.lst ys) from ⟨hz,its,c',r',e⟩),rfl,q _ (I.hok.fresh (Nat.le_refl _))⟩
  rcases hq with hq | hq
  · obtain ⟨its,r',pl,hz⟩ := I.list hq
    have hlen := r'.length
    obtain ⟨o,ho,hc,n,hd⟩ := pl.isList
    exact call_list_seq p (.inl rfl) ho hc hd (fun h' c' kp e => fin its r' hz h' c' kp e) (by simp only [List.size_toArray] <;> omega)
  · obtain ⟨its,r',pl,hz⟩ := I.tuple hq
    have hlen := r'.length
    obtain ⟨o,ho,hc,n,hd⟩ := pl
    exact call_list_seq p (.inr rfl) ho hc hd (fun h' c' kp e => fin its r' hz h' c' kp e) (by simp only [List.size_toArray] <;> omega)
def tyV (K : PySem.W.Frag) (T : String) (x : V) (H : Hp) : Prop := match x with
  | .str _ => T = "str"
  | .int _ => T = "int"
  | .ref p => (T = "list" ∧ ∃ xs,SqL K H p xs) ∨ (T = "tuple" ∧ ∃ o,K.lookup p = some o ∧ o.cls = .type "tuple" ∧ o.dict = none) ∨
      (T = "dict" ∧ ((∃ kvs,H p = some (.dK kvs)) ∨ ∃ kvs,H p = some (.dT kvs))) ∨ (T = "set" ∧ ∃ S n,H p = some (.set S n))
  | _ => False
theorem tyV_is {pins : List (Addr × Obj)} {σ : St} {H : Hp} {s : Shared} {T : String} {x : V} {v : Value} (I : Inv X pins σ H s) (r : RelV x v) (ty : tyV X.K T x H) :
    s.TypeIs v T ∧ ∀ a,v = .ref a → ∃ ob,s.heap.get? a = some ob ∧ ob.dict = none := by
  cases x with
  | str z =>
    obtain ⟨t,rfl⟩ := r
    cases (show T = "str" from ty)
    exact ⟨typeIs_str s z t,fun _ e => nomatch e⟩
  | int i =>
    obtain ⟨t,rfl⟩ := r
    cases (show T = "int" from ty)
    exact ⟨typeIs_int s i t,fun _ e => nomatch e⟩
  | ref p =>
    cases r
    rcases ty with ⟨rfl,xs,hq⟩ | ⟨rfl,o,hk,hc,hd⟩ | ⟨rfl,hk⟩ | ⟨rfl,S,n,hk⟩
    · obtain ⟨its,_,pl,_⟩ := I.list hq
      refine ⟨pl.isList.typeIs,fun a e => ?_⟩
      cases e
      obtain ⟨o,n,e,c,hd,_⟩ := pl
      exact ⟨o,e,hd⟩
    · refine ⟨⟨o,I.kIn p o hk,hc⟩,fun a e => ?_⟩
      cases e
      exact ⟨o,I.kIn _ o hk,hd⟩
    · have z : ∃ o,s.heap.get? p = some o ∧ o.ExactDict := by
        rcases hk with ⟨kvs,hk⟩ | ⟨kvs,hk⟩
        · obtain ⟨_,_,_,_,o,_,_,e,ex,_⟩ := I.hok p _ hk
          exact ⟨o,e,ex⟩
        · obtain ⟨_,_,_,_,o,_,_,e,ex,_⟩ := I.hok p _ hk
          exact ⟨o,e,ex⟩
      obtain ⟨o,e,ex⟩ := z
      refine ⟨⟨o,e,ex.1⟩,fun a e2 => ?_⟩
      cases e2
      exact ⟨o,e,ex.2.1⟩
    · obtain ⟨o,_,_,_,e,ex,_⟩ := I.hok p _ hk
      refine ⟨⟨o,e,ex.1⟩,fun a e2 => ?_⟩
      cases e2
      exact ⟨o,e,ex.2.1⟩
  | _ => exact False.elim ty
def tBM0 (K : PySem.W.Frag) (T : String) (r : V → List V → Hp → VK → Prop) (to : TE) : TE := fun σ H Q => to σ H fun x H1 => tyV K T x H1 ∧ r x [] H1 Q
def tBM (K : PySem.W.Frag) (T : String) (r : V → List V → Hp → VK → Prop) (to : TE) (t : TA) : TE := fun σ H Q => to σ H fun x H1 => tyV K T x H1 ∧ t σ H1 fun xs H2 => r x xs H2 Q
variable {o e : Expr} {es : List Expr} {to : TE} {t : TA} {name : Str} {apos cpos : Pos} {T id : String} {r : V → List V → Hp → VK → Prop}
theorem pe_bm0 (pa : PlainAttrs T) (slot : Slot T name id) (hty : typeOf (.builtin id) = pure (.type "method_descriptor")) (hm : MtR X id r) (ho : PE X o to)
    (hbase : attributeBase o name X.env (eval o X.env) = eval o X.env := by rfl) (hline : (apos.endLine == cpos.line) = true := by rfl) : PE X (.Call (.Attribute o name apos) [] [] cpos) (tBM0 X.K T r to) := by
  intro pins s σ H Q I h
  refine wpAny_Call_method0_late hbase hline (thn (ho pins s σ H _ I h) fun v s1 ⟨x,H1,I1,r1,ty,q1⟩ => ?_)
  obtain ⟨h1,h2⟩ := tyV_is I1 r1 ty
  exact ⟨T,id,pa,slot,hty,h1,h2,Calls.callWith_builtin rfl (PySem.evalArgs_none (hm pins s1 σ H1 x [] v [] Q I1 r1 .nil q1))⟩
theorem pe_bm (pa : PlainAttrs T) (slot : Slot T name id) (hty : typeOf (.builtin id) = pure (.type "method_descriptor")) (hm : MtR X id r) (ho : PE X o to) (ha : PA X (e :: es) t)
    (hbase : attributeBase o name X.env (eval o X.env) = eval o X.env := by rfl)
    (hfew : ((backTo cpos (starEach (e :: es) X.env)).all (fun x => !x.1) && (backToKw cpos (keywordEach [] X.env)).all (fun x => x.1.isSome)
      && decide ((e :: es).length + ([] : List Keyword).length + (if ([] : List Keyword).isEmpty then 0 else 1) < 30)) = true := by rfl)
    (hline : (apos.endLine == cpos.line) = true := by rfl) (hs : starEach (e :: es) X.env = (false,eval e X.env) :: starEach es X.env := by rfl) (hplain : (backTo cpos (starEach es X.env)).any (·.1) = false := by rfl) :
    PE X (.Call (.Attribute o name apos) (e :: es) [] cpos) (tBM X.K T r to t) := by
  intro pins s σ H Q I h
  refine wpAny_Call_method_late hbase hfew hline rfl (thn (ho pins s σ H _ I h) fun v s1 ⟨x,H1,I1,r1,ty,q1⟩ => ?_)
  obtain ⟨h1,h2⟩ := tyV_is I1 r1 ty
  refine ⟨T,id,pa,slot,hty,h1,h2,?_⟩
  have hA := ha cpos pins s1 σ H1 _ I1 q1
  rw [hs] at hA ⊢
  refine Calls.callWith_builtin (by show (false || (backTo cpos (starEach es X.env)).any (·.1)) = false; rw [hplain] <;> rfl) (Calls.evalArgs_plain ?_)
  exact thn hA fun us s2 ⟨vs,H2,I2,r2,q2⟩ => hm pins s2 σ H2 x vs v us Q I2 r1 r2 q2
end
end L2
namespace L2
open PySem PySem.Spec PyProof.Rows
def MtM (X : Cx) (id : String) (r : V → List V → Hp → VK → Prop) : Prop :=
  ∀ (pins : List (Addr × Obj)) (s : Shared) (σ : St) (H : Hp) (x : V) (xs : List V) (v : Value) (us : List Value) (Q : VK),Inv X pins σ H s → RelV x v → Vals xs us → r x xs H Q →
    wpAny (model X.prog X.w) X.A (call (.builtin id) (v :: us)) (EP X pins σ Q) X.xe s
theorem Vals.one : ∀ {x : V} {us : List Value},Vals [x] us → ∃ u,us = [u] ∧ RelV x u
  | _,_,.cons r .nil => ⟨_,rfl,r⟩
theorem Vals.zero : ∀ {us : List Value},Vals [] us → us = []
  | _,.nil => rfl
theorem Vals.eraseIdx : ∀ {xs : List V} {us : List Value} (i : Nat),Vals xs us → Vals (xs.eraseIdx i) (us.eraseIdx i)
  | _,_,_,.nil => .nil
  | _,_,0,.cons _ t => t
  | _,_,i + 1,.cons r t => .cons r (Vals.eraseIdx i t)
theorem Vals.reverse {xs : List V} {us : List Value} (h : Vals xs us) : Vals xs.reverse us.reverse := by
  induction h with
  | nil => exact .nil
  | cons r t ih => rw [List.reverse_cons,List.reverse_cons]; exact Vals.append ih (.cons r .nil)
theorem Vals.rep {xs : List V} {us : List Value} (h : Vals xs us) : ∀ k : Nat,Vals (List.replicate k xs).flatten (List.replicate k us).flatten
  | 0 => .nil
  | k + 1 => by
    rw [List.replicate_succ,List.replicate_succ,List.flatten_cons,List.flatten_cons]
    exact Vals.append h (Vals.rep h k)
theorem len_erase {α : Type} : ∀ (l : List α) (i : Nat),(l.eraseIdx i).length ≤ l.length
  | [],_ => Nat.le_refl _
  | _ :: _,0 => Nat.le_succ _
  | _ :: r,i + 1 => Nat.succ_le_succ (len_erase r i)
theorem foldl_rep (its : List Value) : ∀ (k : Nat) (acc : List Value),
    List.foldl (fun x1 x2 => x1 ++ x2) acc.toArray (List.replicate k its.toArray) = (acc ++ (List.replicate k its).flatten).toArray
  | 0,acc => by simp
  | k + 1,acc => by
    have e : acc.toArray ++ its.toArray = (acc ++ its).toArray := by simp
    have e2 : (acc ++ its) ++ (List.replicate k its).flatten = acc ++ (List.replicate (k + 1) its).flatten := by
      rw [List.replicate_succ,List.flatten_cons,List.append_assoc]
    rw [← e2,← foldl_rep its k (acc ++ its),← e,List.replicate_succ,List.foldl_cons]
section
variable {X : Cx} {pins : List (Addr × Obj)} {σ : St} {H : Hp} {s : Shared} {l b : Addr} {xs ys zs : List V}
theorem Inv.lset {its its' : List Value} {n : Nat} {f : Array Value → Array Value} {t' : Nat} (I : Inv X pins σ H s) (hH : H l = some (.lst xs))
    (e : s.heap.get? l = some { cls := .type "list",data := .seq its.toArray n }) (hf : f its.toArray = its'.toArray) (hv : Vals ys its') (hz : ys.length ≤ sizeLine) :
    Inv X pins σ (upd H l (.lst ys)) { s with heap := s.heap.update l (Obj.mapSeq f),toks := t' } := by
  have q := PySem.IsL.update e f
  rw [hf] at q
  refine I.write (x := l) (e := l) (by rw [hH]; exact trivial) (.inl rfl) (fun b' u hb hu => (Heap.get?_update_other s.heap (Obj.mapSeq f) (Ne.symm hb)).trans hu) ⟨_,q⟩ ?_
  exact ⟨hz,its',_,hv,q⟩
theorem Inv.lnew {its : List Value} {t' : Nat} (I : Inv X pins σ H s) (hv : Vals ys its) (hz : ys.length ≤ sizeLine) :
    Inv X pins σ (upd H s.heap.objs.size (.lst ys)) { s with heap := s.heap.push { cls := .type "list",data := .seq its.toArray },toks := t' } :=
  I.laid (fun _ _ q => Heap.get?_push_of_some _ q) (Nat.le_refl _) ⟨hz,its,0,hv,Heap.get?_push_size _ rfl⟩
theorem Inv.fresh (I : Inv X pins σ H s) : H s.heap.objs.size = none := I.hok.fresh (Nat.le_refl _)
theorem Inv.lstM (I : Inv X pins σ H s) (hH : H l = some (.lst xs)) : xs.length ≤ sizeLine ∧ ∃ (its : List Value) (n : Nat),Vals xs its ∧ xs.length = its.length ∧ s.heap.get? l = some { cls := .type "list",data := .seq its.toArray n } := by
  obtain ⟨z,its,n,r,e⟩ := I.hok l _ hH
  exact ⟨z,its,n,r,r.length,e⟩
theorem notLongL {n : Nat} (h : n ≤ sizeLine) : Builtin.List.listTooLong n = false := by
  unfold Builtin.List.listTooLong
  exact decide_eq_false (by omega)
end
section
variable {X : Cx}
def rAppend : V → List V → Hp → VK → Prop := fun x vs H Q => ∃ l xs y,x = .ref l ∧ vs = [y] ∧ H l = some (.lst xs) ∧ xs.length < sizeLine ∧ Q .non (upd H l (.lst (xs ++ [y])))
theorem mt_append : MtM X "list.append" rAppend := by
  intro pins s σ H x vs v us Q I rx rv h
  obtain ⟨l,xs,y,rfl,rfl,hH,hz,q⟩ := h
  cases rx
  obtain ⟨u,rfl,ru⟩ := rv.one
  obtain ⟨z,its,n,r,hl,e⟩ := I.lstM hH
  refine call_meets F.slot_list_append ⟨_,e,rfl⟩ F.entry_list_append (F.args_list_append_2 _ _) (PySem.list_append l its.toArray n u (by rw [List.size_toArray]; omega)) ⟨e,?_⟩
  refine ⟨.non,_,I.lset (its' := its ++ [u]) hH e (by simp) (r.append (.cons ru .nil)) ?_,rfl,q⟩
  rw [List.length_append,List.length_singleton]
  omega
def rPopAt : V → List V → Hp → VK → Prop := fun x vs H Q => ∃ l xs i k y,x = .ref l ∧ vs = [.int i] ∧ H l = some (.lst xs) ∧ -(2 ^ 63) ≤ i ∧ i < 2 ^ 63 ∧ seqIndex? i xs.length = some k ∧ xs[k]? = some y ∧ Q y (upd H l (.lst (xs.eraseIdx k)))
theorem mt_popAt : MtM X "list.pop" rPopAt := by
  intro pins s σ H x vs v us Q I rx rv h
  obtain ⟨l,xs,i,k,y,rfl,rfl,hH,h1,h2,hk,hy,q⟩ := h
  cases rx
  obtain ⟨u,rfl,ru⟩ := rv.one
  obtain ⟨t,rfl⟩ := ru
  obtain ⟨z,its,n,r,hl,e⟩ := I.lstM hH
  obtain ⟨w,hw,rw'⟩ := r.get hy
  refine call_meets F.slot_list_pop ⟨_,e,rfl⟩ F.entry_list_pop (F.args_list_pop_2 _ _)
    (MeetsSeq.list_pop_at l its.toArray n i t k w (fitsIndex_both h1 h2) (by rw [List.size_toArray,← hl]; exact hk) (by rw [← Array.getElem?_toList]; exact hw) (by rw [List.size_toArray]; omega)) ⟨e,?_⟩
  refine ⟨y,_,I.lset (its' := its.eraseIdx k) hH e ?_ (r.eraseIdx k) ?_,rw',q⟩
  · show its.toArray.eraseIdxIfInBounds k = (its.eraseIdx k).toArray
    rw [List.eraseIdxIfInBounds_toArray]
  · have := len_erase xs k
    omega
def rReverse : V → List V → Hp → VK → Prop := fun x vs H Q => ∃ l xs,x = .ref l ∧ vs = [] ∧ H l = some (.lst xs) ∧ Q .non (upd H l (.lst xs.reverse))
theorem mt_reverse : MtM X "list.reverse" rReverse := by
  intro pins s σ H x vs v us Q I rx rv h
  obtain ⟨l,xs,rfl,rfl,hH,q⟩ := h
  cases rx
  have hus := rv.zero
  subst hus
  obtain ⟨z,its,n,r,hl,e⟩ := I.lstM hH
  refine call_meets F.slot_list_reverse ⟨_,e,rfl⟩ F.entry_list_reverse (F.args_list_reverse_1 _) (AutoSeq1.list_reverse_list_0 l its.toArray n (by rw [List.size_toArray]; omega)) ⟨e,?_⟩
  refine ⟨.non,_,I.lset (its' := its.reverse) hH e (by simp) r.reverse ?_,rfl,q⟩
  rw [List.length_reverse]
  omega
def rCat : R2 := fun x y H Q => ∃ l b xs zs,x = .ref l ∧ y = .ref b ∧ H l = some (.lst xs) ∧ H b = some (.lst zs) ∧ xs.length + zs.length ≤ sizeLine ∧ ∀ p,H p = none → Q (.ref p) (upd H p (.lst (xs ++ zs)))
theorem op_cat : OpR X (binaryOp .Add) rCat := by
  intro pins s σ H x y v u Q I rx ry h
  obtain ⟨l,b,xs,zs,rfl,rfl,hH,hB,hz,q⟩ := h
  cases rx
  cases ry
  obtain ⟨z,its,n,r,hl,e⟩ := I.lstM hH
  obtain ⟨z2,its2,n2,r2,hl2,e2⟩ := I.lstM hB
  refine PySem.P.add_list e e2 ?_ (by rw [List.size_toArray,List.size_toArray]; omega)
  have ea : its.toArray ++ its2.toArray = (its ++ its2).toArray := by simp
  rw [ea]
  exact ⟨.ref _,_,I.lnew (t' := s.toks) (r.append r2) (by rw [List.length_append]; omega),rfl,q _ I.fresh⟩
def rRep : R2 := fun x y H Q => ∃ l k xs,x = .ref l ∧ y = .int k ∧ H l = some (.lst xs) ∧ -(2 ^ 63) ≤ k ∧ k < 2 ^ 63 ∧ xs.length * k.toNat ≤ sizeLine ∧
  ∀ p,H p = none → Q (.ref p) (upd H p (.lst (List.replicate k.toNat xs).flatten))
theorem len_rep {α : Type} (xs : List α) (k : Nat) : (List.replicate k xs).flatten.length = k * xs.length := by
  induction k with
  | zero => simp
  | succ k ih => rw [List.replicate_succ,List.flatten_cons,List.length_append,ih,Nat.succ_mul,Nat.add_comm]
theorem op_rep : OpR X (binaryOp .Mult) rRep := by
  intro pins s σ H x y v u Q I rx ry h
  obtain ⟨l,k,xs,rfl,rfl,hH,h1,h2,hz,q⟩ := h
  cases rx
  obtain ⟨t,rfl⟩ := ry
  obtain ⟨z,its,n,r,hl,e⟩ := I.lstM hH
  have hlen : its.toArray.size * k.toNat ≤ sizeLine := by rw [List.size_toArray,← hl]; exact hz
  have hcap : ¬ its.toArray.size * k.toNat > (2 ^ 63 - 1) / 8 := by
    have : (sizeLine : Nat) ≤ (2 ^ 63 - 1) / 8 := by decide
    omega
  have hfit : ¬ (!Builtin.List.listFitsIndex k) = true := by
    rw [fitsIndex_both h1 h2]
    exact Bool.false_ne_true
  have hlong : ¬ Builtin.List.listTooLong (its.toArray.size * k.toNat) = true := by
    rw [notLongL hlen]
    exact Bool.false_ne_true
  have hnew : List.foldl (fun x1 x2 => x1 ++ x2) #[] (List.replicate (if its.toArray.isEmpty = true then 0 else k.toNat) its.toArray) = (List.replicate k.toNat its).flatten.toArray := by
    have f0 : ∀ m : Nat,List.foldl (fun x1 x2 => x1 ++ x2) #[] (List.replicate m its.toArray) = (List.replicate m its).flatten.toArray := fun m => by
      have := foldl_rep its m []
      rw [List.nil_append] at this
      exact this
    rw [f0]
    cases its with
    | nil => simp
    | cons a r' => rw [if_neg (by simp)]
  refine wpAny_binaryOp_repeat_ref (T := "list") (U := "int") (by decide) ⟨_,e,rfl⟩ (fun s' => typeIs_int s' k t) noFill_list_mul F.fills_int_mul F.slot_int_rmul repeat_list F.slot_int_index.lookup
    (call_meets F.slot_int_rmul (typeIs_int s k t) F.entry_int_rmul (F.args_int_rmul_2 _ _) (int___rmul___int_list k t l its.toArray n)
      ⟨e,rfl,⟨_,e,rfl⟩,call_meets F.slot_list_mul ⟨_,e,rfl⟩ F.entry_list_mul (F.args_list_mul_2 _ _) (AutoListH.list___mul___list_int_3 l its.toArray n k t hfit hcap hlong) ⟨e,?_⟩⟩)
  rw [hnew]
  exact ⟨.ref _,_,I.lnew (t' := s.toks) (r.rep k.toNat) (by rw [len_rep,Nat.mul_comm]; exact hz),rfl,q _ I.fresh⟩
end
section
variable {prog : Program} {w : World} {A : Around} {E : Value → Shared → Prop} {s : Shared}
set_option maxRecDepth 100000 in
end
section
variable {X : Cx}
end
end L2
namespace Att
open PySem PySem.W PySem.Calls PyProof.Rows
theorem ints_of_wellAll {P : Params} {h : Heap} : ∀ (ns : List Int) (vs : List Value),WellAll P h vs (ns.map WData.int) → IntsAre vs ns := by
  intro ns
  induction ns with
  | nil =>
    intro vs w
    rw [List.map_nil] at w
    cases w
    exact .nil
  | cons n ns ih =>
    intro vs w
    rw [List.map_cons] at w
    cases w with
    | cons a b =>
      cases a
      exact .cons _ _ (ih _ b)
theorem script_of {l : OpenLaw} {n : Nat} (hn : l.most = some n) {P : Params} {h : Heap} {args : List WData} {vals : List Value}
    (hpre : l.row.toRowW.claim.pre args = true) (hwl : WellAll P h vals args) :
    ∃ a vs ns,vals = [Value.ref a] ∧ args = [WData.list (ns.map WData.int)] ∧ h.get? a = some { cls := .type "list",data := .seq vs.toArray } ∧ IntsAre vs ns ∧ ns.length ≤ n := by
  have hsh : WShape.hasAll [] args [.list .int] = true := (pre_splitW hpre).1
  have hc : l.pre.holds [] { args := args } = true := (pre_splitW hpre).2
  obtain ⟨d,r,rfl,h1,h2⟩ := hasAllW_cons hsh
  obtain rfl := hasAllW_nil h2
  obtain ⟨xs,rfl,h3⟩ := hasW_list h1
  obtain ⟨ns,rfl⟩ := items_int h3
  have hlen : ns.length ≤ n := by
    unfold OpenLaw.pre at hc
    have h4 : (WTm.not (.lt (.lit (.int (n : Int))) (.len (.arg 0)))).holds [] { args := [.list (ns.map .int)] } = true := by
      have h4 := (holds_andW hc).1
      rw [hn] at h4
      exact h4
    have h5 := condW_of h4 (w_not (w_lt w_lit (w_len_list (w_arg rfl))))
    rw [List.length_map] at h5
    refine Nat.le_of_not_lt fun q => ?_
    have q' : (n : Int) < ((ns.length : Nat) : Int) := by omega
    first
      | (rw [decide_eq_true q'] at h5; exact absurd h5 (by decide))
      | (simp at h5; omega)
  cases hwl with
  | cons w1 w2 =>
    cases w2
    cases w1 with
    | list ho hall => exact ⟨_,_,ns,rfl,rfl,ho,ints_of_wellAll ns _ hall,hlen⟩
theorem post_true (l : OpenLaw) (args : List WData) : l.row.toRowW.claim.post args (.bool true) args = true :=
  postW_of (r := l.row.toRowW) (X := (true == true))
    (show WShape.has [] (.bool true) .bool = true by first | rfl | decide | simp [WShape.has,WShape.arms,WShape.armsAll])
    (show (WTm.eq .res (.lit (.bool true))).value [] { args := args,res := some (.bool true),after := args } = some (.bool (true == true)) from w_eq_bool (w_res rfl) w_lit) rfl
theorem attach_call {l : OpenLaw} {n : Nat} {q : Program} {loose : List Str} {XP : (Str → Option Value) → Heap → Prop} {YP : World → Heap → Prop} {d : DefRec}
    (hn : l.most = some n) (hdf : d.params.defaults = [])
    (call : ∀ (w : World) (s₀ s₁ : Shared) (mg mb : Str → Option Value) (fa : Addr) (o : Obj) (pm cd doc : Value) (a : Addr) (vs : List Value) (ns : List Int),
      Ground q loose [] XP w s₀ mg mb s₁.heap → YP w s₁.heap →
      s₁.heap.get? fa = some o → o.data = .func (docDef d.name d.params d.body d.scope pm cd doc) → s₁.heap.CodeRec cd d.name → mg d.name = some (.ref fa) →
      s₁.heap.get? a = some { cls := .type "list",data := .seq vs.toArray } → IntsAre vs ns → ns.length ≤ n → s₁.gens = #[] →
      codeAny (model l.prog w) callerA (.call (.ref fa) ⟨[.ref a],[]⟩) (fun r s' => r = .ok (.ret (.bool true)) ∧ OldK s₁.heap s'.heap ∧ s'.os = s₁.os ∧ AllBare s'.gens) s₁) :
    WalkO q loose XP YP l.row.toRowW d [] (fun f vs => PySem.call f vs) := by
  intro w s₀ s₁ mg mb G Y fa o pm cd doc dV kV ho hd hcd hD hmg hg args vals as hpre hlay hrd hwl hlo
  obtain rfl : dV = .none := Dflts.none hD hdf
  obtain rfl : kV = .none := Dflts.noKw hD
  obtain ⟨a,vs,ns,rfl,rfl,hobj,hints,hlen⟩ := script_of hn hpre hwl
  refine enter_call (codeAny_mono (call w s₀ s₁ mg mb fa o pm cd doc a vs ns G Y ho (fd_plain hd) hcd hmg hobj hints hlen hg) fun r s' hq => ?_)
  obtain ⟨rfl,h2,h3,h4⟩ := hq
  exact ⟨.inl ⟨.bool true,.bool true,[],rfl,fun _ => rfl,.bool true,post_true l _,fun _ => ⟨List.Pairwise.nil,fun _ hm => (nomatch hm)⟩⟩,h2,h3,h4⟩
section
variable {prog : Program} {w : World} {A : Around} {E : Value → Shared → Prop} {s : Shared} {K : Frag}
end
end Att
namespace L2
open PySem PySem.Spec PyProof.Rows
theorem vals_ints : ∀ {vs : List Value} {ns : List Int},IntsAre vs ns → Vals (ns.map V.int) vs
  | _,_,.nil => .nil
  | _,_,.cons n t h => .cons ⟨t,rfl⟩ (vals_ints h)
def Only (H : Hp) : Prop := ∀ b,H b = none ∨ ∃ o xs,H b = some (.frz o (.lst xs))
theorem law_call {P : Program} {w : World} {K : PySem.W.Frag} {mg mb : Str → Option Value} {CX : CXT} {k : Nat} {fa a : Addr} {fd : FuncData} {x : Str} {sp : Sp} {s₁ : Shared} {vs : List Value} {ns : List Int}
    (KX : K.In s₁.heap) (hns : s₁.heap.Ns mainGlobals mg) (hb : s₁.heap.Ns builtinsNs mb) (hbb : ∀ x : Str,x ≠ "__name__" → mb x = bootBuiltins x) (hlim : s₁.heap.NoLimit) (hg : s₁.gens = #[])
    (ha : s₁.heap.get? a = some { cls := .type "list",data := .seq vs.toArray }) (hi : IntsAre vs ns) (hl : ns.length ≤ sizeLine) (hr : Room k callerA)
    (F : ∀ base : Heap,K.In base → base.Ns mainGlobals mg → FnOk P w K mg base CX k fa fd [x] sp) (hbind : ∀ (s : Shared) (u : Value),BindsTo s fd ⟨[u],[]⟩ [(x,u)])
    (hsp : ∀ H : Hp,Only H → SqL K H a (ns.map V.int) → sp [.ref a] H (fun v _ => v = .bl true) fun _ _ _ => False)
    (hCX : ∀ H e s',CX [] H s₁ (fun _ _ _ => False) e s' → False) :
    codeAny (model P w) callerA (.call (.ref fa) ⟨[.ref a],[]⟩) (fun r s' => r = .ok (.ret (.bool true)) ∧ OldK s₁.heap s'.heap ∧ s'.os = s₁.os ∧ AllBare s'.gens) s₁ := by
  have rv := vals_ints hi
  have lenV := hi.length
  have core : ∀ H : Hp,Only H → SqL K H a (ns.map V.int) → HOk P w H s₁.heap → (∀ b,H b ≠ none → b = a) → (H a ≠ none → K.lookup a = none) →
      codeAny (model P w) callerA (.call (.ref fa) ⟨[.ref a],[]⟩) (fun r s' => r = .ok (.ret (.bool true)) ∧ OldK s₁.heap s'.heap ∧ s'.os = s₁.os ∧ AllBare s'.gens) s₁ := by
    intro H hO hS hok hA hK
    have base_of : ∀ {b : Addr} {o : Obj},s₁.heap.get? b = some o → H b = none → (hidT s₁.heap H).get? b = some o := fun e n => hidT_get e n
    have noA : ∀ {b : Addr} {o : Obj} {es : Array DictEntry} {ep : Nat},s₁.heap.get? b = some o → o.data = .dict es ep → H b = none := fun {b o es ep} e d => by
      cases q : H b with
      | none => rfl
      | some u =>
        have e' : b = a := hA b (by rw [q]; simp)
        subst e'
        rw [ha] at e; cases e
        have d' : Data.seq vs.toArray _ = Data.dict es ep := d
        cases d'
    have nsK : ∀ {b : Addr} {m : Str → Option Value},s₁.heap.Ns b m → (hidT s₁.heap H).Ns b m := fun {b m} ⟨o,es,ep,e,d,r⟩ => ⟨o,es,ep,base_of e (noA e d),d,r⟩
    have hKb : K.In (hidT s₁.heap H) := fun b o e => base_of (KX b o e) (by
      cases q : H b with
      | none => rfl
      | some u =>
        have e' : b = a := hA b (by rw [q]; simp)
        subst e'
        rw [hK (by rw [q]; simp)] at e; cases e)
    have hM : Mod K mg (hidT s₁.heap H) := ⟨hKb,nsK hns,⟨mb,nsK hb,hbb⟩,let ⟨mc,h1,h2⟩ := hlim; ⟨mc,nsK h1,h2⟩⟩
    have e0 : Env0 P w K mg (hidT s₁.heap H) callerA [] s₁ H := ⟨rfl,hM,fun b o e => of_hidT e,Nat.le_of_eq (hidT_size _ _),trivial,fun b hb => absurd (show b ∈ ([] : List Addr) from hb) (by simp),hok,.of_eq hg⟩
    refine codeAny_mono ((F _ hKb (nsK hns)).run callerA [] s₁ H ⟨[.ref a],[]⟩ [.ref a] [.ref a] _ _ hr e0 (hbind s₁ (.ref a)) (.cons rfl .nil) (hsp H hO hS)) fun r s' h => ?_
    cases r with
    | error e => exact (hCX H e s' h).elim
    | ok fl =>
      cases fl with
      | next => exact False.elim h
      | brk => exact False.elim h
      | cont => exact False.elim h
      | ret u =>
        obtain ⟨v,H',os,bare,un,hok',r',q⟩ := h
        have q' : v = .bl true := q
        subst q'
        obtain rfl : u = Value.bool true := r'
        refine ⟨rfl,OldK.of_keep fun b o e => ?_,os,bare⟩
        cases q : H b with
        | none => exact un.keep b o e q (by intro z; exact absurd (show b ∈ ([] : List Addr) from z) (by simp)) (by simp)
        | some u =>
          rcases hO b with z | ⟨ob,xs,z⟩
          · rw [q] at z; cases z
          · have z2 := un.frzs b ob _ z
            obtain ⟨e1,_⟩ := hok b _ z
            obtain ⟨e2,_⟩ := hok' b _ z2
            rw [e] at e1; cases e1
            exact e2
  cases hk : K.lookup a with
  | some o =>
    have e := KX a o hk
    rw [ha] at e
    cases e
    refine core (fun _ => none) (fun _ => .inl rfl) (.inr ⟨_,vs.toArray,_,hk,rfl,rfl,rfl,by rw [List.size_toArray,lenV]; exact hl,by simpa using rv⟩) (fun b u z => by have z' : (none : Option HO) = some u := z; cases z') (fun b z => absurd rfl z) fun z => absurd rfl z
  | none =>
    refine core (fun b => if b = a then some (.frz { cls := .type "list",data := .seq vs.toArray } (.lst (ns.map V.int))) else none) (fun b => ?_) (.inl (.inr ⟨{ cls := .type "list",data := .seq vs.toArray },if_pos rfl⟩)) (fun b u z => ?_) (fun b z => ?_) fun _ => hk
    · by_cases hb : b = a
      · exact .inr ⟨_,_,if_pos hb⟩
      · exact .inl (if_neg hb)
    · by_cases hb : b = a
      · have z' := (if_pos hb).symm.trans z
        cases z'
        subst hb
        exact ⟨ha,by rw [List.length_map]; exact hl,vs,_,rv,ha⟩
      · have z' := (if_neg hb).symm.trans z
        cases z'
    · by_cases hb : b = a
      · exact hb
      · exact absurd (if_neg hb) z
end L2
namespace L2
open PySem PySem.Spec PyProof.Rows
theorem walk_of {l : PySem.W.OpenLaw} {n k : Nat} {q : Program} {loose : List Str} {XP : (Str → Option Value) → Heap → Prop} {YP : World → Heap → Prop} {d : DefRec} {K : Params → PySem.W.Frag} {CX : World → CXT} {sp : World → Sp} {x : Str}
    (hn : l.most = some n) (hn2 : n ≤ sizeLine) (hdf : d.params.defaults = []) (hr : Room k callerA)
    (hY : ∀ (w : World) (h : Heap),YP w h → (K w.params).In h)
    (F : ∀ (w : World) (mg : Str → Option Value) (fa : Addr) (h : Heap),(K w.params).In h → h.Ns mainGlobals mg → mg d.name = some (.ref fa) →
      ∃ fd : FuncData,(∀ (s : Shared) (u : Value),BindsTo s fd ⟨[u],[]⟩ [(x,u)]) ∧
        ∀ base : Heap,(K w.params).In base → base.Ns mainGlobals mg → FnOk l.prog w (K w.params) mg base (CX w) k fa fd [x] (sp w))
    (hsp : ∀ (w : World) (H : Hp) (a : Addr) (ns : List Int),ns.length ≤ n → Only H → SqL (K w.params) H a (ns.map V.int) → sp w [.ref a] H (fun v _ => v = .bl true) fun _ _ _ => False)
    (hCX : ∀ (w : World) (H : Hp) (s : Shared) (e : Value) (s' : Shared),CX w [] H s (fun _ _ _ => False) e s' → False) :
    PySem.W.WalkO q loose XP YP l.row.toRowW d [] (fun f vs => PySem.call f vs) := by
  refine Att.attach_call hn hdf fun w s₀ s₁ mg mb fa o pm cd doc a vs ns G Y ho hd hcd hmg hobj hints hlen hg => ?_
  have KX := hY w _ Y
  obtain ⟨fd,hb,hF⟩ := F w mg fa _ KX G.T.g hmg
  exact law_call KX G.T.g G.T.b G.T.builtins G.T.nolimit hg hobj hints (Nat.le_trans hlen hn2) hr hF hb (fun H hO hS => hsp w H a ns hlen hO hS) fun H e s' => hCX w H s₁ e s'
end L2
namespace L2
open PySem PySem.Spec PyProof.Rows
def defArgs (s : Stmt) : Arguments := match s with
  | .FunctionDef _ a _ _ _ _ _ _ _ _ => a
  | _ => { posonlyargs := [],args := [],vararg := none,kwonlyargs := [],kw_defaults := [],kwarg := none,defaults := [] }
def defBody (s : Stmt) : List Stmt := match s with
  | .FunctionDef _ _ b _ _ _ _ _ _ _ => b
  | _ => []
def defScope (s : Stmt) : Scope := match s with
  | .FunctionDef _ _ _ _ _ _ sc _ _ _ => sc
  | _ => { kind := .function,names := [],isGenerator := false,isCoroutine := false }
abbrev CX0 : CXT := fun _ _ _ _ _ _ => False
abbrev E0 : XK := fun _ _ _ => False
theorem pass0 {X : Cx} : Passes CX0 X E0 := fun _ _ _ _ _ _ _ h => h.elim
section
variable {P : Program} {w : World} {K : PySem.W.Frag} {mg : Str → Option Value} {base : Heap}
end
theorem small1000 {n : Nat} (h : n ≤ 1000) : n < sizeLine := Nat.lt_of_le_of_lt h (by decide)
section
variable {X : Cx}
theorem pv (i : Nat) {x : Str} {pos : Pos} (hN : X.N[i]? = some x := by rfl) (hv : Vis X.env.scope x := by first | exact Or.inl rfl | exact Or.inr (Or.inl rfl) | exact Or.inr (Or.inr rfl)) (hd : (x == ("__debug__" : Str)) = false := by decide)
    (hcd : (x == ("__classdict__" : Str)) = false := by decide) : PE X (.Name x pos) (tVar i) := pe_var hN hv hd hcd
end
theorem iteF {A B : Prop} (h : B) : if false = true then A else B := by
  rw [if_neg Bool.false_ne_true]
  exact h
theorem iteT {A B : Prop} (h : A) : if true = true then A else B := by
  rw [if_pos rfl]
  exact h
def Same (H H' : Hp) : Prop := ∀ b o,H b = some o → H' b = some o
theorem Same.refl (H : Hp) : Same H H := fun _ _ h => h
theorem Same.trans {H H1 H2 : Hp} (a : Same H H1) (b : Same H1 H2) : Same H H2 := fun c o h => b c o (a c o h)
theorem Same.free {H H' : Hp} (e : Same H H') {l : Addr} (h : H' l = Option.none) : H l = Option.none := by
  cases q : H l with
  | none => rfl
  | some o =>
    rw [e l o q] at h
    cases h
theorem Same.seq {K : PySem.W.Frag} {H H' : Hp} {a : Addr} {xs : List V} (e : Same H H') (h : SqL K H a xs) : SqL K H' a xs := by
  rcases h with (h | ⟨o,h⟩) | h
  · exact .inl (.inl (e _ _ h))
  · exact .inl (.inr ⟨o,e _ _ h⟩)
  · exact .inr h
end L2
end
section
set_option Elab.async false
set_option linter.all false
set_option maxRecDepth 100000
set_option maxHeartbeats 4000000
namespace Mth
theorem gcd_step {a b : Int} (ha : 0 ≤ a) (hb : 0 < b) : Int.gcd b (a % b) = Int.gcd a b := by
  obtain ⟨m,rfl⟩ := Int.eq_ofNat_of_zero_le ha
  obtain ⟨n,rfl⟩ := Int.eq_ofNat_of_zero_le (Int.le_of_lt hb)
  rw [← Int.natCast_emod]
  show Nat.gcd (n : Int).natAbs ((m % n : Nat) : Int).natAbs = Nat.gcd (m : Int).natAbs (n : Int).natAbs
  simp only [Int.natAbs_natCast]
  rw [Nat.gcd_comm m n,Nat.gcd_comm n (m % n)]
  exact (Nat.gcd_rec n m).symm
theorem gcd_abs (a b : Int) : Int.gcd (if a < 0 then -a else a) b = Int.gcd a b := by
  split
  · exact Int.neg_gcd
  · rfl
theorem gcd_abs' (a b : Int) : Int.gcd a (if b < 0 then -b else b) = Int.gcd a b := by
  rw [Int.gcd_comm,gcd_abs,Int.gcd_comm]
theorem gcd_zero {a : Int} (ha : 0 ≤ a) : (Int.gcd a 0 : Int) = a := by
  rw [Int.gcd_zero]; omega
structure Low (t b : Int) : Prop where
  pos : 1 ≤ b
  one : Int.gcd t b = 1
theorem gcd_pos {a b : Int} (h : b ≠ 0) : 0 < (Int.gcd a b : Int) := by
  have := Int.gcd_pos_of_ne_zero_right a h
  omega
theorem div_eq (a b : Int) : a = a / (Int.gcd a b : Int) * (Int.gcd a b : Int) := (Int.ediv_mul_cancel (Int.gcd_dvd_left a b)).symm
theorem div_eq' (a b : Int) : b = b / (Int.gcd a b : Int) * (Int.gcd a b : Int) := (Int.ediv_mul_cancel (Int.gcd_dvd_right a b)).symm
theorem div_low {a b : Int} (hb : 0 < b) : Low (a / (Int.gcd a b : Int)) (b / (Int.gcd a b : Int)) := by
  have hg := gcd_pos (a := a) (b := b) (by omega)
  refine ⟨?_,?_⟩
  · have h1 := div_eq' a b
    have h2 : 0 < b / (Int.gcd a b : Int) := Int.ediv_pos_of_pos_of_dvd hb (by omega) (Int.gcd_dvd_right a b)
    omega
  · rw [Int.gcd_ediv (Int.gcd_dvd_left a b) (Int.gcd_dvd_right a b)]
    simp only [Int.natAbs_natCast]
    exact Nat.div_self (by omega)
theorem low_dvd {t b t' b' : Int} (h : Low t b) (e : t * b' = t' * b) : b ∣ b' := by
  have h1 : b.natAbs ∣ t.natAbs * b'.natAbs := by
    rw [← Int.natAbs_mul,e,Int.natAbs_mul]
    exact Nat.dvd_mul_left _ _
  have h2 : Nat.Coprime b.natAbs t.natAbs := by
    have := h.one
    unfold Nat.Coprime
    rw [Nat.gcd_comm]
    exact this
  exact Int.natAbs_dvd_natAbs.mp (h2.dvd_of_dvd_mul_left h1)
theorem low_unique {t b t' b' : Int} (h : Low t b) (h' : Low t' b') (e : t * b' = t' * b) : t = t' ∧ b = b' := by
  have d1 := low_dvd h e
  have d2 := low_dvd h' e.symm
  have p1 := h.pos
  have p2 := h'.pos
  have eb : b = b' := Int.le_antisymm (Int.le_of_dvd (by omega) d1) (Int.le_of_dvd (by omega) d2)
  subst eb
  exact ⟨Int.eq_of_mul_eq_mul_right (by omega) e,rfl⟩
structure Frac (top bottom t b : Int) : Prop where
  low : Low t b
  eq : top * b = t * bottom
theorem frac_pos {a b : Int} (hb : 0 < b) : Frac a b (a / (Int.gcd a b : Int)) (b / (Int.gcd a b : Int)) := by
  refine ⟨div_low hb,?_⟩
  have h1 := div_eq a b
  have h2 := div_eq' a b
  generalize a / (Int.gcd a b : Int) = x at *
  generalize b / (Int.gcd a b : Int) = y at *
  generalize (Int.gcd a b : Int) = g at *
  subst h1 h2
  grind
theorem frac_fdiv {a b : Int} (hb : b ≠ 0) (d : Int) (hd : d = if b < 0 then -(Int.gcd a b : Int) else (Int.gcd a b : Int)) : Frac a b (a.fdiv d) (b.fdiv d) := by
  have hg := gcd_pos (a := a) (b := b) hb
  by_cases h : b < 0
  · rw [if_pos h] at hd
    have f := frac_pos (a := -a) (b := -b) (by omega)
    rw [Int.gcd_neg,Int.neg_gcd] at f
    subst hd
    have e1 : a.fdiv (-(Int.gcd a b : Int)) = -a / (Int.gcd a b : Int) := by
      rw [← Int.neg_fdiv_neg,Int.neg_neg]; exact Int.fdiv_eq_ediv_of_nonneg _ (by omega)
    have e2 : b.fdiv (-(Int.gcd a b : Int)) = -b / (Int.gcd a b : Int) := by
      rw [← Int.neg_fdiv_neg,Int.neg_neg]; exact Int.fdiv_eq_ediv_of_nonneg _ (by omega)
    rw [e1,e2]
    exact ⟨f.low,by have := f.eq; grind⟩
  · rw [if_neg h] at hd
    subst hd
    rw [Int.fdiv_eq_ediv_of_nonneg _ (by omega),Int.fdiv_eq_ediv_of_nonneg _ (by omega)]
    exact frac_pos (by omega)
theorem frac_unique {a b t u t' u' : Int} (hb : b ≠ 0) (h : Frac a b t u) (h' : Frac a b t' u') : t = t' ∧ u = u' := by
  refine low_unique h.low h'.low ?_
  have e1 := h.eq
  have e2 := h'.eq
  have : b * (t * u') = b * (t' * u) := by grind
  exact Int.eq_of_mul_eq_mul_left hb this
theorem frac_self {t u : Int} (h : Low t u) : Frac t u t u := ⟨h,rfl⟩
end Mth
namespace L2
open PySem PySem.Spec PyProof.Rows
abbrev bits (i : Int) : Nat := Builtin.Int.intBits i
theorem bits_of {i : Int} {n : Nat} (h : i.natAbs < 2 ^ n) : bits i ≤ n := intBits_le h
theorem bits_lt {i : Int} {n : Nat} (h : bits i ≤ n) : i.natAbs < 2 ^ n := by
  unfold bits Builtin.Int.intBits at h
  by_cases h0 : i = 0
  · subst h0
    exact Nat.pos_of_ne_zero (by simp)
  · rw [if_neg (by simpa using h0)] at h
    have h1 : i.natAbs ≠ 0 := by omega
    exact (Nat.log2_lt h1).mp (by omega)
theorem bits_mono {i j : Int} {n : Nat} (h : i.natAbs ≤ j.natAbs) (hj : bits j ≤ n) : bits i ≤ n := bits_of (Nat.lt_of_le_of_lt h (bits_lt hj))
theorem bits_mul {i j : Int} {m n : Nat} (hi : bits i ≤ m) (hj : bits j ≤ n) : bits (i * j) ≤ m + n := by
  refine bits_of ?_
  rw [Int.natAbs_mul,Nat.pow_add]
  exact Nat.mul_lt_mul'' (bits_lt hi) (bits_lt hj)
theorem bits_add {i j : Int} {n : Nat} (hi : bits i ≤ n) (hj : bits j ≤ n) : bits (i + j) ≤ n + 1 := by
  refine bits_of ?_
  have h1 := bits_lt hi
  have h2 := bits_lt hj
  have h3 : (2 : Nat) ^ (n + 1) = 2 * 2 ^ n := by rw [Nat.pow_succ,Nat.mul_comm]
  omega
theorem bits_sub {i j : Int} {n : Nat} (hi : bits i ≤ n) (hj : bits j ≤ n) : bits (i - j) ≤ n + 1 := by
  refine bits_of ?_
  have h1 := bits_lt hi
  have h2 := bits_lt hj
  have h3 : (2 : Nat) ^ (n + 1) = 2 * 2 ^ n := by rw [Nat.pow_succ,Nat.mul_comm]
  omega
theorem bits_neg {i : Int} {n : Nat} (hi : bits i ≤ n) : bits (-i) ≤ n := bits_mono (by omega) hi
theorem bits_ediv {i j : Int} {n : Nat} (hj : 0 < j) (hi : bits i ≤ n) : bits (i / j) ≤ n := by
  refine bits_mono ?_ hi
  exact Int.natAbs_ediv_le_natAbs i j
theorem bits_fdiv {i j : Int} {n : Nat} (hi : bits i ≤ n) : bits (i.fdiv j) ≤ n := PySem.intBits_fdiv_le hi
theorem bits_range {i b : Int} {n : Nat} (h0 : 0 ≤ i) (h1 : i ≤ b) (hb : bits b ≤ n) : bits i ≤ n := bits_mono (by omega) hb
theorem bits_le {i : Int} {m n : Nat} (h : bits i ≤ m) (hm : m ≤ n) : bits i ≤ n := Nat.le_trans h hm
section
variable {X : Cx} {pos : Pos}
def CM (i j : Int) : Prop := IntMulOk i j
theorem CM.b {i j : Int} {m n : Nat} (hi : bits i ≤ m) (hj : bits j ≤ n) (hm : m ≤ 2 ^ 20) (hn : n ≤ 2 ^ 20) : CM i j := IntMulOk.of_bits (Nat.le_trans hi hm) (Nat.le_trans hj hn)
theorem CM.l {i j : Int} (h : -(2 ^ 64) < i ∧ i < 2 ^ 64) : CM i j := CMul.ok (.inl h)
theorem CM.r {i j : Int} (h : -(2 ^ 64) < j ∧ j < 2 ^ 64) : CM i j := CMul.ok (.inr h)
theorem op_mulX : OpR X (binaryOp .Mult) (rI CM fun i j => .int (i * j)) := opI fun _ _ _ _ _ _ _ hc q => mul_int q hc
def CD (_ j : Int) : Prop := 0 < j ∧ bits j ≤ 8000
theorem log2_of_bits {j : Int} {n : Nat} (hj : j ≠ 0) (h : bits j ≤ n) (hn : n ≤ 9000) : j.natAbs.log2 < 9000 := by
  have h1 : j.natAbs ≠ 0 := by omega
  have h2 := (Nat.log2_lt h1).mpr (bits_lt h)
  omega
theorem op_fdivP : OpR X (binaryOp .FloorDiv) (rI CD fun i j => .int (i / j)) := opI fun i j _ _ _ _ _ hc q => by
  have h1 : (0 : Int) < j := hc.1
  exact floordiv_int (by omega) (by rw [Int.fdiv_eq_ediv_of_nonneg i (by omega)]; exact q) (.inl (PyProof.noPylong_of_log2 (log2_of_bits (by omega) hc.2 (by decide))))
def CDZ (_ j : Int) : Prop := j ≠ 0 ∧ bits j ≤ 8000
theorem op_fdivZ : OpR X (binaryOp .FloorDiv) (rI CDZ fun i j => .int (i.fdiv j)) := opI fun i j _ _ _ _ _ hc q =>
  floordiv_int hc.1 q (.inl (PyProof.noPylong_of_log2 (log2_of_bits hc.1 hc.2 (by decide))))
end
theorem bt_int : bootBuiltins "int" = some (.type "int") := by decide +kernel
theorem bt_bool : bootBuiltins "bool" = some (.type "bool") := by decide +kernel
theorem bt_str : bootBuiltins "str" = some (.type "str") := by decide +kernel
theorem bt_tuple : bootBuiltins "tuple" = some (.type "tuple") := by decide +kernel
theorem bt_list : bootBuiltins "list" = some (.type "list") := by decide +kernel
theorem bt_isinstance : bootBuiltins "isinstance" = some (.builtin "isinstance") := by decide +kernel
theorem bt_abs : bootBuiltins "abs" = some (.builtin "abs") := by decide +kernel
theorem bt_len : bootBuiltins "len" = some (.builtin "len") := by decide +kernel
theorem bt_min : bootBuiltins "min" = some (.builtin "min") := by decide +kernel
theorem bt_max : bootBuiltins "max" = some (.builtin "max") := by decide +kernel
theorem pe_ty {X : Cx} {x : Str} {T : String} {pos : Pos} (hm : X.mg x = none) (hv : bootBuiltins x = some (.type T)) (hg : Gl X x := by rfl) (hn : x ≠ "__name__" := by decide) (hd : (x == ("__debug__" : Str)) = false := by decide) :
    PE X (.Name x pos) (tC (.ty T)) := pe_bltn hg hm hv rfl hn hd
inductive Kn (H : Hp) : V → String → Prop where
  | non : Kn H .non "NoneType"
  | bl (b : Bool) : Kn H (.bl b) "bool"
  | int (i : Int) : Kn H (.int i) "int"
  | str (x : Str) : Kn H (.str x) "str"
  | lst {a : Addr} {xs : List V} (e : H a = some (.lst xs)) : Kn H (.ref a) "list"
  | tup {a : Addr} {xs : List V} (e : H a = some (.tup xs)) : Kn H (.ref a) "tuple"
  | dict {a : Addr} {kvs : List (Key × V)} (e : H a = some (.dK kvs)) : Kn H (.ref a) "dict"
theorem Kn.ty {K : PySem.W.Frag} {H : Hp} {x : V} {t : String} (k : Kn H x t) : TyOf K H x (.type t) := by
  cases k with
  | non => exact .non
  | bl b => exact .bl b
  | int i => exact .int i
  | str x => exact .str x
  | lst e => exact .lst e
  | tup e => exact .tup e
  | dict e => exact .dK e
theorem Kn.mono {H H' : Hp} {x : V} {t : String} (k : Kn H x t) (s : Same H H') : Kn H' x t := by
  cases k with
  | non => exact .non
  | bl b => exact .bl b
  | int i => exact .int i
  | str x => exact .str x
  | lst e => exact .lst (s _ _ e)
  | tup e => exact .tup (s _ _ e)
  | dict e => exact .dict (s _ _ e)
def isSub (t T : String) : Bool := t == T || (t == "bool" && T == "int")
def Nice (T : String) : Prop := T = "int" ∨ T = "bool" ∨ T = "tuple" ∨ T = "list" ∨ T = "str"
theorem kit_of (K : PySem.W.Frag) {H : Hp} {x : V} {t T : String} (k : Kn H x t) (n : Nice T) : PySem.W.kitOne K (.type t) (.type T) = some (isSub t T) := by
  rcases n with rfl | rfl | rfl | rfl | rfl <;> cases k <;> kernel_rfl
theorem call_isinst {X : Cx} : CallR X (.builtin "isinstance") (fun xs H Q => ∃ x t T,xs = [x,.ty T] ∧ Kn H x t ∧ Nice T ∧ Q (.bl (isSub t T)) H) := by
  intro pins s σ H xs us Q I rs h
  obtain ⟨x,t,T,rfl,k,n,q⟩ := h
  obtain ⟨u,v,rfl,ru,rv⟩ := vals2 rs
  cases (show v = Value.type T from rv)
  exact isinst_ok I ru k.ty (kit_of X.K k n) fun tk => ⟨.bl _,H,I.tok _,rfl,q⟩
structure Fn (P : Program) (w : World) (K : PySem.W.Frag) (mg : Str → Option Value) (base : Heap) (x : Str) (ps : List Str) (k : Nat) (sp : Sp) : Prop where
  ex : ∃ (f : Addr) (fd : FuncData) (o : Obj),mg x = some (.ref f) ∧ PySem.W.keepIn K (.ref f) = true ∧ (∀ us : List Value,us.length = ps.length → bindArgs fd ⟨us,[]⟩ = pure (ps.zip us)) ∧ (K.lookup f = some o ∧ o.data = .func fd) ∧ FnOk P w K mg base CX0 k f fd ps sp
theorem pe_fn {X : Cx} {x : Str} {ps : List Str} {k : Nat} {sp : Sp} {p pos : Pos} {e : Expr} {es : List Expr} {t : TA} (F : Fn X.prog X.w X.K X.mg X.base x ps k sp) (hr : Room k X.A) (hg : Gl X x) (ha : PA X (e :: es) t)
    (hdb : (x == ("__debug__" : Str)) = false := by decide) (he : starEach (e :: es) X.env = (false,eval e X.env) :: starEach es X.env := by rfl) (hpl : (backTo pos (starEach es X.env)).any (·.1) = false := by rfl) :
    PE X (.Call (.Name x p) (e :: es) [] pos) (tCall sp [] E0 t) := by
  obtain ⟨f,fd,o,hm,hk,hb,_,G⟩ := F.ex
  exact pe_call G hr hg hm hk (.all hb) .nil pass0 ha hdb he hpl
structure Df (K : PySem.W.Frag) (mg : Str → Option Value) (x : Str) (st : Stmt) : Prop where
  ex : ∃ (f : Addr) (oc : Value) (od : Option Addr) (kV doc pm : Value) (an : Option Addr) (cdv ct : Value) (osl : Array (Option Value)),
    mg x = some (.ref f) ∧ K.lookup f = some ⟨oc,od,.func (PySem.W.fnOf x x (defArgs st) (defBody st) (defScope st) .none kV doc pm an cdv ct),osl⟩ ∧ PySem.W.codeIn K cdv x = true ∧ PySem.W.keepIn K (.ref f) = true
theorem df_mk {K : PySem.W.Frag} {mg : Str → Option Value} {h : Heap} {x : Str} {st : Stmt} {f : Addr} {oc : Value} {od an : Option Addr} {osl : Array (Option Value)} {kV doc pm cdv ct : Value} (X : K.In h) (G : h.Ns mainGlobals mg)
    (a : PySem.W.nsIn K mainGlobals x = some (some (.ref f))) (l : K.lookup f = some ⟨oc,od,.func (PySem.W.fnOf x x (defArgs st) (defBody st) (defScope st) .none kV doc pm an cdv ct),osl⟩) (c : PySem.W.codeIn K cdv x = true) (k : PySem.W.keepIn K (.ref f) = true) :
    Df K mg x st := ⟨⟨f,oc,od,kV,doc,pm,an,cdv,ct,osl,PySem.W.mg_of X G a,l,c,k⟩⟩
theorem Df.fn {P : Program} {w : World} {K : PySem.W.Frag} {mg : Str → Option Value} {base : Heap} {x : Str} {st : Stmt} {N ps : List Str} {k : Nat} {sp : Sp} (D : Df K mg x st) (S : FnScope N ps (defScope st))
    (hbind : ∀ (kV doc pm : Value) (an : Option Addr) (cdv ct : Value) (us : List Value),us.length = ps.length → bindArgs (PySem.W.fnOf x x (defArgs st) (defBody st) (defScope st) .none kV doc pm an cdv ct) ⟨us,[]⟩ = pure (ps.zip us))
    (len : ∀ vs H Q E,sp vs H Q E → vs.length = ps.length)
    (hbody : ∀ (f : Addr) (cdv : Value) (A : Around) (outer : List Env) (s : Shared) (H : Hp) (vs : List V) (Q : VK) (E : XK),Room k (A.deeper (envOfC x (defScope st) s.heap.objs.size f cdv)) → sp vs H Q E →
      ∃ t,PSs (cxOf CX0 P w K mg base N x (defScope st) f cdv A outer s H E).nox (defBody st) t ∧ t { nx := fun _ H' => Q .non H',rt := Q } (start N vs) H) : Fn P w K mg base x ps (k + 1) sp := by
  obtain ⟨f,oc,od,kV,doc,pm,an,cdv,ct,osl,hm,lk,hcd,hk⟩ := D.ex
  refine ⟨⟨f,_,_,hm,hk,hbind kV doc pm an cdv ct,⟨lk,rfl⟩,fn_of lk hcd S len fun A outer s H vs Q E hr hsp => ?_⟩⟩
  obtain ⟨t,h,q⟩ := hbody f cdv A outer s H vs Q E hr hsp
  exact ⟨t,h.nox,q⟩
theorem law_fd {P : Program} {w : World} {K : PySem.W.Frag} {mg : Str → Option Value} {fa : Addr} {k : Nat} {sp : Sp} (h : Heap) (hfa : mg "law" = some (.ref fa)) (F : ∀ base : Heap,Fn P w K mg base "law" ["script"] k sp) :
    ∃ fd : FuncData,(∀ (s : Shared) (v : Value),BindsTo s fd ⟨[v],[]⟩ [("script",v)]) ∧ ∀ base : Heap,K.In base → base.Ns mainGlobals mg → FnOk P w K mg base CX0 k fa fd ["script"] sp := by
  obtain ⟨f,fd,o,hm,_,hb,⟨hl,hd⟩,_⟩ := (F h).ex
  rw [hfa] at hm
  cases hm
  refine ⟨fd,fun s v => .of_eq (hb [v] rfl),fun base _ _ => ?_⟩
  obtain ⟨f',fd',o',hm',_,_,⟨hl',hd'⟩,G⟩ := (F base).ex
  rw [hfa] at hm'
  cases hm'
  rw [hl] at hl'
  cases hl'
  rw [hd] at hd'
  cases hd'
  exact G
def spLaw (K : PySem.W.Frag) : Sp := fun vs H Q _ => ∃ (a : Addr) (ns : List Int),vs = [.ref a] ∧ SqL K H a (ns.map V.int) ∧ ns.length ≤ 63 ∧ ∀ H',Q (.bl true) H'
theorem law_walk {l : PySem.W.OpenLaw} {k : Nat} {q : Program} {loose : List Str} {XP : (Str → Option Value) → Heap → Prop} {YP : World → Heap → Prop} {d : DefRec} {K : Params → PySem.W.Frag} (hk : Room k callerA) (hn : l.most = some 63) (hdf : d.params.defaults = [])
    (hY : ∀ (w : World) (h : Heap),YP w h → (K w.params).In h)
    (F : ∀ (w : World) (mg : Str → Option Value) (fa : Addr) (h : Heap),(K w.params).In h → h.Ns mainGlobals mg → mg d.name = some (.ref fa) →
      ∃ fd : FuncData,(∀ (s : Shared) (u : Value),BindsTo s fd ⟨[u],[]⟩ [("script",u)]) ∧ ∀ base : Heap,(K w.params).In base → base.Ns mainGlobals mg → FnOk l.prog w (K w.params) mg base CX0 k fa fd ["script"] (spLaw (K w.params))) :
    PySem.W.WalkO q loose XP YP l.row.toRowW d [] (fun f vs => PySem.call f vs) :=
  L2.walk_of (n := 63) (k := k) (x := "script") (CX := fun _ => CX0) (sp := fun w => spLaw (K w.params)) hn (by decide) hdf hk hY F (fun _ _ a ns hl _ hS => ⟨a,ns,rfl,hS,hl,fun _ => rfl⟩) fun _ _ _ _ _ z => z
theorem Same.new {H : Hp} {p : Addr} {o : HO} (h : H p = none) : Same H (upd H p o) := fun b o' e => by
  rw [upd_ne (ne_of_none e h)]
  exact e
theorem ite3 {c : Bool} {A B : Prop} (h1 : c = true → A) (h2 : c = false → B) : if c = true then A else B := by
  cases c with
  | true => exact iteT (h1 rfl)
  | false => exact iteF (h2 rfl)
theorem iteFalse {b : Bool} {A B : Prop} (hb : b = false) (h : B) : if b = true then A else B := by
  subst hb
  exact iteF h
theorem iteTrue {b : Bool} {A B : Prop} (hb : b = true) (h : A) : if b = true then A else B := by
  subst hb
  exact iteT h
def isIntV : V → Bool
  | .int _ => true
  | _ => false
end L2
namespace Sp1
open PySem PySem.Spec L2 Mth
def spWhole : Sp := fun vs H Q _ => ∃ x t,vs = [x] ∧ Kn H x t ∧ Q (.bl (isIntV x)) H
def spGcd : Sp := fun vs H Q _ => ∃ a b : Int,vs = [.int a,.int b] ∧ Q (.int (Int.gcd a b : Int)) H
def spLess : Sp := fun vs H Q _ => ∃ (p q : Addr) (a b c d : Int),vs = [.ref p,.ref q] ∧ H p = some (.tup [.int a,.int b]) ∧ H q = some (.tup [.int c,.int d]) ∧ (bits a ≤ 2000 ∧ bits b ≤ 2000 ∧ bits c ≤ 2000 ∧ bits d ≤ 2000) ∧ Q (.bl (decide (a * d < c * b))) H
def spFloor : Sp := fun vs H Q _ => ∃ (p : Addr) (a b : Int),vs = [.ref p] ∧ H p = some (.tup [.int a,.int b]) ∧ (0 < b ∧ bits b ≤ 2000) ∧ Q (.int (a / b)) H
def lowB (a b : Int) : Bool := decide (1 ≤ b) && decide (Int.gcd a b = 1)
def lowL : List V → Bool
  | [.int a,.int b] => lowB a b
  | _ => false
def lowV (H : Hp) : V → Bool
  | .ref p => match H p with
    | some (.tup xs) => lowL xs
    | _ => false
  | _ => false
structure Thing (H : Hp) (x : V) : Prop where
  kn : ∃ t,Kn H x t
  parts : ∀ p xs,x = .ref p → H p = some (.tup xs) → ∀ y ∈ xs,∃ t,Kn H y t
def spLow : Sp := fun vs H Q _ => ∃ x,vs = [x] ∧ Thing H x ∧ Q (.bl (lowV H x)) H
theorem whole_sub {H : Hp} {x : V} {t : String} (k : Kn H x t) : (isSub t "int" = true → (!isSub t "bool") = isIntV x) ∧ (isSub t "int" = false → isIntV x = false) := by
  cases k with
  | non => exact ⟨fun h => absurd h (by decide),fun _ => rfl⟩
  | bl b => exact ⟨fun _ => (show (!isSub "bool" "bool") = false by decide),fun h => absurd h (by decide)⟩
  | int i => exact ⟨fun _ => (show (!isSub "int" "bool") = true by decide),fun h => absurd h (by decide)⟩
  | str x => exact ⟨fun h => absurd h (by decide),fun _ => rfl⟩
  | lst e => exact ⟨fun h => absurd h (by decide),fun _ => rfl⟩
  | tup e => exact ⟨fun h => absurd h (by decide),fun _ => rfl⟩
  | dict e => exact ⟨fun h => absurd h (by decide),fun _ => rfl⟩
theorem abs_nonneg (a : Int) : 0 ≤ (if a < 0 then -a else a) := by split <;> omega
theorem Kn.cases_int {H : Hp} {y : V} {t : String} (k : Kn H y t) : (∃ a,y = .int a ∧ t = "int") ∨ ((∀ a,y ≠ .int a) ∧ isIntV y = false) := by
  cases k with
  | int a => exact .inl ⟨a,rfl,rfl⟩
  | non => exact .inr ⟨fun a e => (nomatch e),rfl⟩
  | bl b => exact .inr ⟨fun a e => (nomatch e),rfl⟩
  | str x => exact .inr ⟨fun a e => (nomatch e),rfl⟩
  | lst e => exact .inr ⟨fun a e => (nomatch e),rfl⟩
  | tup e => exact .inr ⟨fun a e => (nomatch e),rfl⟩
  | dict e => exact .inr ⟨fun a e => (nomatch e),rfl⟩
theorem Kn.cases_tup {H : Hp} {y : V} {t : String} (k : Kn H y t) : (∃ p xs,y = .ref p ∧ H p = some (.tup xs) ∧ t = "tuple") ∨ (lowV H y = false ∧ isSub t "tuple" = false) := by
  cases k with
  | tup e => exact .inl ⟨_,_,rfl,e,rfl⟩
  | non => exact .inr ⟨rfl,by decide⟩
  | bl b => exact .inr ⟨rfl,by decide⟩
  | str x => exact .inr ⟨rfl,by decide⟩
  | int a => exact .inr ⟨rfl,by decide⟩
  | lst e => exact .inr ⟨by simp only [lowV,e],by decide⟩
  | dict e => exact .inr ⟨by simp only [lowV,e],by decide⟩
theorem lowV_tup {H : Hp} {p : Addr} {xs : List V} (e : H p = some (.tup xs)) : lowV H (.ref p) = lowL xs := by simp only [lowV,e]
theorem lowL_len {xs : List V} (h : xs.length ≠ 2) : lowL xs = false := by
  unfold lowL
  split
  · exact absurd rfl h
  · rfl
theorem lowL_fst {y z : V} (h : ∀ a,y ≠ .int a) : lowL [y,z] = false := by
  unfold lowL
  split
  · rename_i a b e
    cases e
    exact absurd rfl (h a)
  · rfl
theorem lowL_snd {y z : V} (h : ∀ a,z ≠ .int a) : lowL [y,z] = false := by
  unfold lowL
  split
  · rename_i a b e
    cases e
    exact absurd rfl (h b)
  · rfl
theorem sz {n : Nat} (h : n ≤ 1000) : n ≤ sizeLine := Nat.le_of_lt (small1000 h)
theorem grow {H : Hp} {p : Addr} {o : HO} (h : H p = none) : ∃ H1,upd H p o = H1 ∧ Same H H1 ∧ H1 p = some o := ⟨_,rfl,Same.new h,upd_same⟩
theorem atI_mem {α : Type} {xs : List α} {k : Int} (h0 : 0 ≤ k) (h1 : k < (xs.length : Int)) : ∃ v,atI xs k = some v ∧ v ∈ xs := by
  have hk : k.toNat < xs.length := by omega
  have ek : k = ((k.toNat : Nat) : Int) := by omega
  have q := atI_nat (xs := xs) (j := k.toNat) (List.getElem?_eq_getElem hk)
  rw [← ek] at q
  exact ⟨xs[k.toNat],q,List.getElem_mem hk⟩
theorem th_tup {H : Hp} {p : Addr} {xs : List V} (e : H p = some (.tup xs)) (h : ∀ y ∈ xs,∃ t,Kn H y t) : Thing H (.ref p) := ⟨⟨_,.tup e⟩,fun p' ys e1 e2 => by
  cases e1
  rw [e] at e2
  cases e2
  exact h⟩
def spRatio (C : Addr) : Sp := fun vs H Q E => ∃ a b : Int,vs = [.int a,.int b] ∧ (bits a ≤ 2000 ∧ bits b ≤ 2000) ∧ (b = 0 → E (.ref C) none H) ∧
  (b ≠ 0 → ∀ (p : Addr) (t u : Int),Frac a b t u → bits t ≤ 2000 → bits u ≤ 2000 → H p = none → Q (.ref p) (upd H p (.tup [.int t,.int u])))
theorem gcd_bits2 {a b : Int} {n : Nat} (hb : b ≠ 0) (h : bits b ≤ n) : bits (Int.gcd a b : Int) ≤ n := by
  refine bits_mono ?_ h
  have h1 : (Int.gcd a b) ∣ b.natAbs := Int.gcd_dvd_natAbs_right a b
  have h2 := Nat.le_of_dvd (by omega) h1
  omega
end Sp1
namespace L2
open PySem PySem.Spec PyProof.Rows
theorem all_same (ns ms : List Int) : ((List.range (min ns.length ms.length)).all (fun j => decide (ns[j]? = ms[j]?)) && ns.length == ms.length) = decide (ns = ms) := by
  rw [Bool.eq_iff_iff]
  simp only [Bool.and_eq_true,List.all_eq_true,List.mem_range,decide_eq_true_eq,beq_iff_eq]
  constructor
  · rintro ⟨h1,h2⟩
    refine List.ext_getElem? fun j => ?_
    by_cases hj : j < ns.length
    · exact h1 j (by omega)
    · rw [List.getElem?_eq_none (by omega),List.getElem?_eq_none (by omega)]
  · rintro rfl
    exact ⟨fun _ _ => rfl,rfl⟩
theorem val_at {ns : List Int} {us : List Value} {j : Nat} (r : Vals (ns.map V.int) us) (h : j < us.length) : ∃ a,ns[j]? = some a ∧ RelV (.int a) us[j] := by
  have hl := r.length
  rw [List.length_map] at hl
  have hj : j < ns.length := by omega
  obtain ⟨u,e,q⟩ := r.get (i := j) (x := .int ns[j]) (by rw [List.getElem?_map,List.getElem?_eq_getElem hj]; rfl)
  rw [List.getElem?_eq_getElem h] at e
  cases e
  exact ⟨ns[j],List.getElem?_eq_getElem hj,q⟩
section
variable {X : Cx}
def rEqI (K : PySem.W.Frag) (neg : Bool) : R2 := fun x y H Q => ∃ (p q : Addr) (ns ms : List Int),x = .ref p ∧ y = .ref q ∧ SqT K H p (ns.map V.int) ∧ SqT K H q (ms.map V.int) ∧ Q (.bl (if neg then !decide (ns = ms) else decide (ns = ms))) H
theorem items_eq {A : Around} {s : Shared} {ns ms : List Int} {us vs : List Value} (r : Vals (ns.map V.int) us) (r' : Vals (ms.map V.int) vs) (j : Nat) (h1 : j < us.toArray.size) (h2 : j < vs.toArray.size) :
    SeqAt.EqAt A s us.toArray[j] vs.toArray[j] (decide (ns[j]? = ms[j]?)) := by
  rw [List.size_toArray] at h1 h2
  obtain ⟨a,ea,ra⟩ := val_at r h1
  obtain ⟨b,eb,rb⟩ := val_at r' h2
  have q := eqAt_V (A := A) (s := s) ra rb rfl rfl
  have e : eqV (.int a) (.int b) = decide (ns[j]? = ms[j]?) := by
    rw [ea,eb]
    show (a == b) = decide (some a = some b)
    rw [Bool.eq_iff_iff]
    simp
  rw [e] at q
  exact q
theorem op_eqI (hu : X.A.units < cLine) : OpR X (compareOp .Eq) (rEqI X.K false) := by
  intro pins s σ H x y v u Q I rx ry h
  obtain ⟨p,q,ns,ms,rfl,rfl,hp,hq,k⟩ := h
  cases rx
  cases ry
  obtain ⟨its,r,pl,_⟩ := I.tuple hp
  obtain ⟨jts,r',pl',_⟩ := I.tuple hq
  refine SeqAt.eq_tupleAt pl pl' hu (items_eq r r') ⟨.bl _,H,I,rfl,?_⟩
  have e1 := r.length
  have e2 := r'.length
  rw [List.length_map] at e1 e2
  rw [List.size_toArray,List.size_toArray,← e1,← e2,all_same]
  exact k
theorem op_neI (hu : X.A.units < cLine) : OpR X (compareOp .NotEq) (rEqI X.K true) := by
  intro pins s σ H x y v u Q I rx ry h
  obtain ⟨p,q,ns,ms,rfl,rfl,hp,hq,k⟩ := h
  cases rx
  cases ry
  obtain ⟨its,r,pl,_⟩ := I.tuple hp
  obtain ⟨jts,r',pl',_⟩ := I.tuple hq
  refine SeqAt.RcNeAt.tuples pl pl' hu (items_eq r r') _ _ _ _ ⟨.bl _,H,I,rfl,?_⟩
  have e1 := r.length
  have e2 := r'.length
  rw [List.length_map] at e1 e2
  rw [List.size_toArray,List.size_toArray,← e1,← e2,all_same]
  exact k
end
end L2
namespace L2
open PySem PySem.Spec PyProof.Rows
section
variable {prog : Program} {w : World} {A : Around} {E : Value → Shared → Prop}
end
end L2
namespace L2
open PySem PySem.Spec PyProof.Rows
theorem ObjOk.has {P : Program} {w : World} {H : Hp} {h : Heap} {a : Addr} {o : HO} (x : ObjOk P w H h a o) : ∃ ob,h.get? a = some ob := by
  cases o with
  | lst xs => obtain ⟨_,_,_,_,e⟩ := x; exact ⟨_,e⟩
  | tup xs => obtain ⟨_,_,_,ob,e,_⟩ := x; exact ⟨_,e⟩
  | dK kvs => obtain ⟨_,_,_,_,ob,_,_,e,_⟩ := x; exact ⟨_,e⟩
  | dT kvs => obtain ⟨_,_,_,_,ob,_,_,e,_⟩ := x; exact ⟨_,e⟩
  | set S n => obtain ⟨ob,_,_,_,e,_⟩ := x; exact ⟨_,e⟩
  | ins C dx fs => obtain ⟨_,_,_,e,_⟩ := x; exact ⟨_,e⟩
  | own y => obtain ⟨ob,e⟩ := x; exact ⟨_,e⟩
  | xd fs => obtain ⟨_,⟨od,_,_,e,_⟩,_⟩ := x; exact ⟨_,e⟩
  | rng lo hi => obtain ⟨_,_,_,e⟩ := x; exact ⟨_,e⟩
  | frz ob u => obtain ⟨e,_⟩ := x; exact ⟨_,e⟩
  | tbl ps => exact ⟨_,(show h.get? a = some _ from x)⟩
  | met f y => exact ⟨_,(show h.get? a = some _ from x)⟩
  | ext φ => obtain ⟨_,⟨ob,e⟩,_⟩ := x; exact ⟨_,e⟩
structure Big (B : Heap) (fs : List Addr) (H' : Hp) (h : Heap) : Prop where
  tr : ∀ b o,H' b = some o → ∃ ob,B.get? b = some ob
  old : ∀ b o,h.get? b = some o → b ∉ fs → ∃ ob,B.get? b = some ob
section
variable {P : Program} {w : World} {fs fs' : List Addr} {H H1 H' : Hp} {h h1 h2 B : Heap}
theorem Un.fly (un : Un fs [] H H' h h1) (big : Big B fs H' h) (st1 : B.StaysIn h1) (st2 : B.StaysIn h2) (sl : h1.UpToSlots h2)
    (fr : ∀ b ∈ fs,H b = none ∧ ∀ o,h1.get? b = some o → ∀ vs,o.data ≠ .fields vs) : Un fs [] H H' h h2 where
  keep := fun b o e n hb hx => by
    have e1 := un.keep b o e n hb hx
    obtain ⟨ob,eb⟩ := big.old b o e hb
    have e2 := st1 b ob eb
    rw [e1] at e2
    cases e2
    exact st2 b _ eb
  slot := fun b o e n hb hx => by
    obtain ⟨s1,e1⟩ := un.slot b o e n hb hx
    obtain ⟨s2,e2⟩ := sl b _ e1 ((fr b hb).2 _ e1)
    exact ⟨s2,e2⟩
  free := un.free
  there := fun b o e hx => by
    by_cases hb : b ∈ fs
    · obtain ⟨s1,e1⟩ := un.slot b o e (fr b hb).1 hb hx
      obtain ⟨s2,e2⟩ := sl b _ e1 ((fr b hb).2 _ e1)
      exact ⟨_,e2⟩
    · obtain ⟨ob,eb⟩ := big.old b o e hb
      exact ⟨_,st2 b ob eb⟩
  tups := un.tups
  frzs := un.frzs
  tbls := un.tbls
theorem HOk.fly (hok : HOk P w H' h1) (big : Big B fs H' h) (st1 : B.StaysIn h1) (st2 : B.StaysIn h2) : HOk P w H' h2 := fun a o e => by
  refine (hok a o e).stay (fun b u hb q => ?_) (fun _ q => q) fun _ _ q => q
  have hb' : ∃ ob,B.get? b = some ob := by
    rcases hb with z | z
    · rw [z]
      exact big.tr a o e
    · exact big.tr b _ z
  obtain ⟨ob,eb⟩ := hb'
  have e2 := st1 b ob eb
  rw [q] at e2
  cases e2
  exact st2 b _ eb
theorem Un.shed (a : Un fs [] H H1 h h1) (b : Un fs' [] H1 H' h1 h2) (sub : ∀ x ∈ fs,x ∈ fs') (out : ∀ x o,h.get? x = some o → x ∈ fs' → x ∈ fs) : Un fs [] H H' h h2 where
  keep := fun x o e n hx hn => b.keep x o (a.keep x o e n hx hn) (a.free x o e n hn) (fun z => hx (out x o e z)) hn
  slot := fun x o e n hx hn => by
    obtain ⟨s1,e1⟩ := a.slot x o e n hx hn
    obtain ⟨s2,e2⟩ := b.slot x _ e1 (a.free x o e n hn) (sub x hx) hn
    exact ⟨s2,e2⟩
  free := fun x o e n hn => by
    obtain ⟨o1,e1⟩ := a.there x o e hn
    exact b.free x o1 e1 (a.free x o e n hn) hn
  there := fun x o e hn => by
    obtain ⟨o1,e1⟩ := a.there x o e hn
    exact b.there x o1 e1 hn
  tups := fun x xs e => b.tups x xs (a.tups x xs e)
  frzs := fun x o xs e => b.frzs x o xs (a.frzs x o xs e)
  tbls := fun x ps e => by
    obtain ⟨m1,e1⟩ := a.tbls x ps e
    obtain ⟨m2,e2⟩ := b.tbls x _ e1
    exact ⟨m1 ++ m2,by rw [e2,Array.append_assoc]⟩
end
def CXE (P : Program) (w : World) : CXT := fun outer H s E e s' => ∃ (ea t : Addr) (cls : Value) (H' : Hp) (B : Heap),
  e = .ref ea ∧ s'.os = s.os ∧ AllBare s'.gens ∧ Un (frs outer) [] H H' s.heap s'.heap ∧ HOk P w H' s'.heap ∧ Heap.FlyingW B outer ea cls (.ref t) s'.heap ∧ Big B (frs outer) H' s.heap ∧ E cls none H'
section
variable {P : Program} {w : World} {K : PySem.W.Frag} {mg : Str → Option Value} {base : Heap} {N : List Str} {qual : Str} {scope : Scope} {f : Addr} {cdv : Value} {A : Around} {outer : List Env} {s₀ : Shared} {H₀ : Hp} {E : XK}
theorem frs_cons {env : Env} {L : Addr} (hf : env.frame = some L) (l : List Env) : frs (env :: l) = L :: frs l := by
  unfold frs
  rw [List.filterMap_cons,hf]
theorem raised {pins : List (Addr × Obj)} {σ : St} {H : Hp} {s : Shared} {h' : Heap} {e : Addr} {cls : Value} {vs : List Value} (I : Inv (cxOf (CXE P w) P w K mg base N qual scope f cdv A outer s₀ H₀ E) pins σ H s)
    (hx : Heap.MadeExcOf s.heap h' e cls vs) (q : E cls none H) : (cxOf (CXE P w) P w K mg base N qual scope f cdv A outer s₀ H₀ E).xe (.ref e) { s with heap := h' } := by
  have hin : ∀ env ∈ (cxOf (CXE P w) P w K mg base N qual scope f cdv A outer s₀ H₀ E).stack,∀ a,env.frame = some a → a ∈ frs (cxOf (CXE P w) P w K mg base N qual scope f cdv A outer s₀ H₀ E).stack :=
    fun env he a ha => List.mem_filterMap.mpr ⟨env,he,ha⟩
  have neL : ∀ b o,s₀.heap.get? b = some o → b ∉ frs outer → b ∉ frs (cxOf (CXE P w) P w K mg base N qual scope f cdv A outer s₀ H₀ E).stack := fun b o eb hb hm => by
    rcases List.mem_cons.mp (I.stkSub b hm) with z | z
    · exact absurd z (Nat.ne_of_lt (Nat.lt_of_lt_of_le (Heap.lt_size eb) I.ok.above))
    · exact hb z
  refine wpAny_leaves_madeW (base := PySem.W.hideAll s.heap (frs (cxOf (CXE P w) P w K mg base N qual scope f cdv A outer s₀ H₀ E).stack)) (h := s.heap) (L := s₀.heap.objs.size) I.ok.frames rfl (fun b o z => PySem.W.of_hideAll _ z) (PySem.W.funFrames_hide I.stack hin) hx fun h'' t fl _ _ up => ?_
  have big : Big (PySem.W.hideAll s.heap (frs (cxOf (CXE P w) P w K mg base N qual scope f cdv A outer s₀ H₀ E).stack)) (frs outer) H s₀.heap := by
    refine ⟨fun b o eb => ?_,fun b o eb hb => ?_⟩
    · obtain ⟨ob,z⟩ := (I.hok b o eb).has
      refine ⟨ob,PySem.W.hideAll_get _ z fun hm => ?_⟩
      rw [I.stkFree b hm] at eb
      cases eb
    · obtain ⟨ob,z⟩ := I.base.there b o eb (by intro z; cases z)
      exact ⟨ob,PySem.W.hideAll_get _ z (neL b o eb hb)⟩
  have st1 : (PySem.W.hideAll s.heap (frs (cxOf (CXE P w) P w K mg base N qual scope f cdv A outer s₀ H₀ E).stack)).StaysIn s.heap := fun b o z => PySem.W.of_hideAll _ z
  have sl : s.heap.UpToSlots h'' := (Heap.UpToSlots.of_keeps hx.keeps).trans up
  exact ⟨e,t,cls,H,_,rfl,I.os,I.bare,Un.fly I.base big st1 fl.1 sl fun b hb => ⟨I.ok.frf b hb,fun o eo => by
      obtain ⟨_,o',eo',nf⟩ := I.funs.mem hb
      rw [eo] at eo'
      cases eo'
      exact nf⟩,HOk.fly I.hok big st1 fl.1,fl,big,q⟩
theorem pass_on {E1 : XK} (hE : ∀ c o H',E1 c o H' → E c o H') : Passes (CXE P w) (cxOf (CXE P w) P w K mg base N qual scope f cdv A outer s₀ H₀ E) E1 := by
  intro pins σ H s e s' I h
  obtain ⟨ea,t,cls,H',B,rfl,os,bare,un,hok,fl,big,q⟩ := h
  refine wpAny_leaves_onW (L := s₀.heap.objs.size) I.ok.frames rfl fl fun h'' fl' up => ?_
  have out : ∀ x o,s₀.heap.get? x = some o → x ∈ frs (cxOf (CXE P w) P w K mg base N qual scope f cdv A outer s₀ H₀ E).stack → x ∈ frs outer := fun x o ex hm => by
    rcases List.mem_cons.mp (I.stkSub x hm) with z | z
    · exact absurd z (Nat.ne_of_lt (Nat.lt_of_lt_of_le (Heap.lt_size ex) I.ok.above))
    · exact z
  have sub : ∀ x ∈ frs outer,x ∈ frs (cxOf (CXE P w) P w K mg base N qual scope f cdv A outer s₀ H₀ E).stack := fun x hx => by
    show x ∈ frs (_ :: outer)
    rw [frs_cons (L := s₀.heap.objs.size) rfl]
    exact List.mem_cons_of_mem _ hx
  have un1 : Un (frs outer) [] H₀ H' s₀.heap s'.heap := Un.shed I.base un sub out
  have big1 : Big B (frs outer) H' s₀.heap := by
    refine ⟨big.tr,fun b o eb hb => ?_⟩
    obtain ⟨ob,z⟩ := I.base.there b o eb (by intro z; cases z)
    exact big.old b ob z fun hm => hb (out b o eb hm)
  refine ⟨ea,t,cls,H',B,rfl,os.trans I.os,bare,Un.fly un1 big1 fl.1 fl'.1 up fun b hb => ⟨I.ok.frf b hb,fun o eo => ?_⟩,HOk.fly hok big1 fl.1 fl'.1,fl',big1,hE _ _ _ q⟩
  obtain ⟨_,o',eo',nf⟩ := fl'.2.2.1.mem hb
  obtain ⟨_,o2,eo2,nf2⟩ := fl.2.2.1.mem (sub b hb)
  rw [eo] at eo2
  cases eo2
  exact nf2
end
structure ExcC (K : PySem.W.Frag) (mg : Str → Option Value) (x : Str) (C : Addr) : Prop where
  bound : mg x = some (.ref C)
  obj : ∀ h : Heap,K.In h → ∃ bm N nm qn bs hd sn sub ab col dd k0 k1 k2 k3 k5 mN,h.get? C = some (excClassObj nm qn C N bs bm hd sn sub ab col dd k0 k1 k2 k3 k5 "ValueError.__new__") ∧ h.Ns N mN ∧ mN "__init__" = none ∧
    OwnTail h [.type "ValueError",.type "Exception",.type "BaseException",.type "object"] bm
theorem exc_obj {K : PySem.W.Frag} {h : Heap} {C : Addr} {bmB : List Value} {newId : String} (X : K.In h) (q : PySem.W.excIn K C bmB newId = true) :
    ∃ bm N nm qn bs hd sn sub ab col dd k0 k1 k2 k3 k5 mN,h.get? C = some (excClassObj nm qn C N bs bm hd sn sub ab col dd k0 k1 k2 k3 k5 newId) ∧ h.Ns N mN ∧ mN "__init__" = none ∧ OwnTail h bmB bm := by
  unfold PySem.W.excIn at q
  split at q
  next dct cl sls look =>
    split at q
    next C2 bms a0 a1 a2 a3 nid a5 hmro hsls =>
      simp only [Bool.not_eq_true',beq_iff_eq,Bool.and_eq_true] at q
      obtain ⟨⟨⟨⟨⟨q1,q2⟩,q3⟩,q4⟩,q5⟩,q6⟩ := q
      subst q1 q2
      obtain ⟨c1,c2,c3,c4,c5,c6,c7,c8,c9,c10,c11⟩ := cl
      dsimp only at hmro q3 q5 q6
      subst hmro q3
      obtain ⟨lst⟩ := sls
      simp only at hsls
      subst hsls
      exact ⟨bms,c4,c1,c5,c2,c6,c7,c8,c9,c10,dct,a0,a1,a2,a3,a5,_,X _ _ look,.of_isNs (PySem.W.isNs_of_in X q5),PySem.W.nsMap_none_of_in X q5 q6,PySem.W.tail_of_in X q4⟩
    next => cases q
  next => cases q
theorem exc_mk {K : PySem.W.Frag} {mg : Str → Option Value} {h : Heap} {x : Str} {C : Addr} (X : K.In h) (G : h.Ns mainGlobals mg) (a : PySem.W.nsIn K mainGlobals x = some (some (.ref C)))
    (q : PySem.W.excIn K C [.type "ValueError",.type "Exception",.type "BaseException",.type "object"] "ValueError.__new__" = true) : ExcC K mg x C := ⟨PySem.W.mg_of X G a,fun _ Y => exc_obj Y q⟩
section
variable {P : Program} {w : World} {K : PySem.W.Frag} {mg : Str → Option Value} {base : Heap} {N : List Str} {qual : Str} {scope : Scope} {f : Addr} {cdv : Value} {A : Around} {outer : List Env} {s₀ : Shared} {H₀ : Hp} {E : XK}
theorem ps_raise {x : Str} {C : Addr} {np cpos pos : Pos} (O : ExcC K mg x C) (hg : Gl (cxOf (CXE P w) P w K mg base N qual scope f cdv A outer s₀ H₀ E) x) (hdb : (x == ("__debug__" : Str)) = false := by decide) :
    PS (cxOf (CXE P w) P w K mg base N qual scope f cdv A outer s₀ H₀ E) (.Raise (some (.Call (.Name x np) [] [] cpos)) none pos) (fun _ _ H => E (.ref C) none H) := by
  intro pins s σ H D I h
  obtain ⟨bm,N',nm,qn,bs,hd,sn,sub,ab,col,dd,k0,k1,k2,k3,k5,mN,hC,hN,hni,T⟩ := O.obj s.heap I.kIn
  refine wpAny_Raise_call_subT (C := C) (nm := nm) (q := qn) (N := N') (bs := bs) (bm := bm) (hdct := hd) (sn := sn) (sub := sub) (ab := ab) (col := col) (dd := dd) (k0 := k0) (k1 := k1) (k2 := k2) (k3 := k3) (k5 := k5) PySem.F.excBase_ValueError (mN := mN) (T.hasType (by decide +kernel)) (I.ok.hd rfl) rfl hni (ld_glob I hg O.bound ⟨rfl,?_⟩ hdb)
  exact evalArgs_empty ⟨rfl,Nat.zero_le _,hC,hN,T,fun h' e hx => raised I hx h⟩
end
abbrev Cx.inH (X : Cx) (e : Addr) : Cx := { X with A := X.A.mark (some (.ref e)),calm := false,xe := fun _ _ => False }
theorem Inv.inH {X : Cx} {pins : List (Addr × Obj)} {σ : St} {H : Hp} {s : Shared} (I : Inv X pins σ H s) (e : Addr) : Inv (X.inH e) pins σ H s :=
  ⟨⟨I.ok.mod,I.ok.kind,I.ok.glob,I.ok.blt,I.ok.above,I.ok.inj,I.ok.has,I.ok.cab,(fun z => by cases z),I.ok.frames,I.ok.stk,I.ok.exf,I.ok.bs,I.ok.bsz,I.ok.noex,I.ok.exfs,I.ok.funs,I.ok.frf⟩,
    I.os,I.bare,I.base,I.loc,I.cell,I.free,I.freeC,I.pin,I.hok,I.len⟩
theorem Inv.outH {X : Cx} {e : Addr} {pins : List (Addr × Obj)} {σ : St} {H : Hp} {s : Shared} (ok : X.Ok) (I : Inv (X.inH e) pins σ H s) : Inv X pins σ H s :=
  ⟨ok,I.os,I.bare,I.base,I.loc,I.cell,I.free,I.freeC,I.pin,I.hok,I.len⟩
section
variable {X : Cx}
end
abbrev TX := (Value → St → Hp → Prop) → TS
def XP (X : Cx) (pins : List (Addr × Obj)) (R : Value → St → Hp → Prop) (ev : Value) (s' : Shared) : Prop :=
  ∃ (s₁ : Shared) (σ₁ : St) (H₁ : Hp) (E1 : XK),Inv X pins σ₁ H₁ s₁ ∧ CXE X.prog X.w X.stack H₁ s₁ E1 ev s' ∧ ∀ c o H',E1 c o H' → R c σ₁ H'
def PX (X : Cx) (st : Stmt) (t : TX) : Prop :=
  ∀ (pins : List (Addr × Obj)) (s : Shared) (σ : St) (H : Hp) (D : Ends) (R : Value → St → Hp → Prop),Inv X pins σ H s → t R D σ H → wpAny (model X.prog X.w) X.A (exec st X.env) (SP X pins D) (XP X pins R) s
def PXs (X : Cx) (st : List Stmt) (t : TX) : Prop :=
  ∀ (pins : List (Addr × Obj)) (s : Shared) (σ : St) (H : Hp) (D : Ends) (R : Value → St → Hp → Prop),Inv X pins σ H s → t R D σ H → wpAny (model X.prog X.w) X.A (execs st X.env) (SP X pins D) (XP X pins R) s
structure Fx (P : Program) (w : World) (K : PySem.W.Frag) (mg : Str → Option Value) (base : Heap) (x : Str) (ps : List Str) (k : Nat) (ds : List V) (sp : Sp) : Prop where
  ex : ∃ (f : Addr) (fd : FuncData) (its : List Value),mg x = some (.ref f) ∧ PySem.W.keepIn K (.ref f) = true ∧ Binds K fd ps [] ∧ Binds K fd ps its ∧ Vals ds its ∧ FnOk P w K mg base (CXE P w) k f fd ps sp
structure DfD (K : PySem.W.Frag) (mg : Str → Option Value) (x : Str) (st : Stmt) (ds : List V) : Prop where
  ex : ∃ (f T : Addr) (oT : Obj) (n : Nat) (its : List Value) (oc : Value) (od : Option Addr) (kV doc pm : Value) (an : Option Addr) (cdv ct : Value) (osl : Array (Option Value)),
    mg x = some (.ref f) ∧ K.lookup f = some ⟨oc,od,.func (PySem.W.fnOf x x (defArgs st) (defBody st) (defScope st) (.ref T) kV doc pm an cdv ct),osl⟩ ∧ PySem.W.codeIn K cdv x = true ∧ PySem.W.keepIn K (.ref f) = true ∧ K.lookup T = some oT ∧ oT.data = .seq its.toArray n ∧ Vals ds its
theorem dfd_mk {K : PySem.W.Frag} {mg : Str → Option Value} {h : Heap} {x : Str} {st : Stmt} {ds : List V} {its : List Value} {f T : Addr} {oT : Obj} {n : Nat} {oc : Value} {od an : Option Addr} {osl : Array (Option Value)} {kV doc pm cdv ct : Value} (X : K.In h) (G : h.Ns mainGlobals mg)
    (a : PySem.W.nsIn K mainGlobals x = some (some (.ref f))) (l : K.lookup f = some ⟨oc,od,.func (PySem.W.fnOf x x (defArgs st) (defBody st) (defScope st) (.ref T) kV doc pm an cdv ct),osl⟩) (c : PySem.W.codeIn K cdv x = true) (k : PySem.W.keepIn K (.ref f) = true)
    (t : K.lookup T = some oT) (d : oT.data = .seq its.toArray n) (v : Vals ds its) : DfD K mg x st ds := ⟨⟨f,T,oT,n,its,oc,od,kV,doc,pm,an,cdv,ct,osl,PySem.W.mg_of X G a,l,c,k,t,d,v⟩⟩
theorem DfD.fx {P : Program} {w : World} {K : PySem.W.Frag} {mg : Str → Option Value} {base : Heap} {x : Str} {st : Stmt} {ds : List V} {N ps : List Str} {k : Nat} {sp : Sp} (D : DfD K mg x st ds) (S : FnScope N ps (defScope st))
    (hb : ∀ (T : Addr) (kV doc pm : Value) (an : Option Addr) (cdv ct : Value) (us its : List Value) (oT : Obj) (n : Nat) (s : Shared),Vals ds its → us.length = ps.length → s.heap.get? T = some oT → oT.data = .seq its.toArray n →
      BindsTo s (PySem.W.fnOf x x (defArgs st) (defBody st) (defScope st) (.ref T) kV doc pm an cdv ct) ⟨us,[]⟩ (ps.zip us))
    (hd : ∀ (T : Addr) (kV doc pm : Value) (an : Option Addr) (cdv ct : Value) (us its : List Value) (oT : Obj) (n : Nat) (s : Shared),Vals ds its → (us ++ its).length = ps.length → s.heap.get? T = some oT → oT.data = .seq its.toArray n →
      BindsTo s (PySem.W.fnOf x x (defArgs st) (defBody st) (defScope st) (.ref T) kV doc pm an cdv ct) ⟨us,[]⟩ (ps.zip (us ++ its)))
    (len : ∀ vs H Q E,sp vs H Q E → vs.length = ps.length)
    (hbody : ∀ (f : Addr) (cdv : Value) (A : Around) (outer : List Env) (s : Shared) (H : Hp) (vs : List V) (Q : VK) (E : XK),Room k (A.deeper (envOfC x (defScope st) s.heap.objs.size f cdv)) → sp vs H Q E →
      ∃ t,PSs (cxOf (CXE P w) P w K mg base N x (defScope st) f cdv A outer s H E) (defBody st) t ∧ t { nx := fun _ H' => Q .non H',rt := Q } (start N vs) H) : Fx P w K mg base x ps (k + 1) ds sp := by
  obtain ⟨f,T,oT,n,its,oc,od,kV,doc,pm,an,cdv,ct,osl,hm,lk,hcd,hk,hT,hs,hv⟩ := D.ex
  refine ⟨⟨f,_,its,hm,hk,fun s us KX hl => ?_,fun s us KX hl => hd T kV doc pm an cdv ct us its oT n s hv hl (KX _ _ hT) hs,hv,fn_of lk hcd S len fun A outer s H vs Q E hr hsp => hbody f cdv A outer s H vs Q E hr hsp⟩⟩
  rw [List.append_nil] at hl ⊢
  exact hb T kV doc pm an cdv ct us its oT n s hv hl (KX _ _ hT) hs
theorem Df.fx {P : Program} {w : World} {K : PySem.W.Frag} {mg : Str → Option Value} {base : Heap} {x : Str} {st : Stmt} {N ps : List Str} {k : Nat} {sp : Sp} (D : Df K mg x st) (S : FnScope N ps (defScope st))
    (hbind : ∀ (kV doc pm : Value) (an : Option Addr) (cdv ct : Value) (us : List Value),us.length = ps.length → bindArgs (PySem.W.fnOf x x (defArgs st) (defBody st) (defScope st) .none kV doc pm an cdv ct) ⟨us,[]⟩ = pure (ps.zip us))
    (len : ∀ vs H Q E,sp vs H Q E → vs.length = ps.length)
    (hbody : ∀ (f : Addr) (cdv : Value) (A : Around) (outer : List Env) (s : Shared) (H : Hp) (vs : List V) (Q : VK) (E : XK),Room k (A.deeper (envOfC x (defScope st) s.heap.objs.size f cdv)) → sp vs H Q E →
      ∃ t,PSs (cxOf (CXE P w) P w K mg base N x (defScope st) f cdv A outer s H E) (defBody st) t ∧ t { nx := fun _ H' => Q .non H',rt := Q } (start N vs) H) : Fx P w K mg base x ps (k + 1) [] sp := by
  obtain ⟨f,oc,od,kV,doc,pm,an,cdv,ct,osl,hm,lk,hcd,hk⟩ := D.ex
  have hb : Binds K (PySem.W.fnOf x x (defArgs st) (defBody st) (defScope st) .none kV doc pm an cdv ct) ps [] := .all (hbind kV doc pm an cdv ct)
  exact ⟨⟨f,_,[],hm,hk,hb,hb,.nil,fn_of lk hcd S len fun A outer s H vs Q E hr hsp => hbody f cdv A outer s H vs Q E hr hsp⟩⟩
theorem pe_fx {P : Program} {w : World} {K : PySem.W.Frag} {mg : Str → Option Value} {base : Heap} {N : List Str} {qual : Str} {scope : Scope} {f : Addr} {cdv : Value} {A : Around} {outer : List Env} {s₀ : Shared} {H₀ : Hp} {E : XK}
    {x : Str} {ps : List Str} {k : Nat} {ds : List V} {sp : Sp} {p pos : Pos} {e : Expr} {es : List Expr} {t : TA} (F : Fx P w K mg base x ps k ds sp) (hr : Room k (cxOf (CXE P w) P w K mg base N qual scope f cdv A outer s₀ H₀ E).A) (hg : Gl (cxOf (CXE P w) P w K mg base N qual scope f cdv A outer s₀ H₀ E) x)
    (ha : PA (cxOf (CXE P w) P w K mg base N qual scope f cdv A outer s₀ H₀ E) (e :: es) t)
    (hdb : (x == ("__debug__" : Str)) = false := by decide) (he : starEach (e :: es) (cxOf (CXE P w) P w K mg base N qual scope f cdv A outer s₀ H₀ E).env = (false,eval e (cxOf (CXE P w) P w K mg base N qual scope f cdv A outer s₀ H₀ E).env) :: starEach es (cxOf (CXE P w) P w K mg base N qual scope f cdv A outer s₀ H₀ E).env := by rfl)
    (hpl : (backTo pos (starEach es (cxOf (CXE P w) P w K mg base N qual scope f cdv A outer s₀ H₀ E).env)).any (·.1) = false := by rfl) :
    PE (cxOf (CXE P w) P w K mg base N qual scope f cdv A outer s₀ H₀ E) (.Call (.Name x p) (e :: es) [] pos) (tCall sp [] E t) := by
  obtain ⟨g,fd,its,hm,hk,hb,_,_,G⟩ := F.ex
  exact pe_call G hr hg hm hk hb .nil (pass_on fun _ _ _ z => z) ha hdb he hpl
theorem pass_none {P : Program} {w : World} {X : Cx} : Passes (CXE P w) X E0 := fun _ _ _ _ _ _ _ h => by
  obtain ⟨_,_,_,_,_,_,_,_,_,_,_,_,q⟩ := h
  exact q.elim
theorem pe_fx0 {X : Cx} {x : Str} {ps : List Str} {k : Nat} {ds : List V} {sp : Sp} {p pos : Pos} {e : Expr} {es : List Expr} {t : TA} (F : Fx X.prog X.w X.K X.mg X.base x ps k ds sp) (hr : Room k X.A) (hg : Gl X x) (ha : PA X (e :: es) t)
    (hdb : (x == ("__debug__" : Str)) = false := by decide) (he : starEach (e :: es) X.env = (false,eval e X.env) :: starEach es X.env := by rfl) (hpl : (backTo pos (starEach es X.env)).any (·.1) = false := by rfl) :
    PE X (.Call (.Name x p) (e :: es) [] pos) (tCall sp [] E0 t) := by
  obtain ⟨g,fd,its,hm,hk,hb,_,_,G⟩ := F.ex
  exact pe_call G hr hg hm hk hb .nil pass_none ha hdb he hpl
theorem pe_fxd0 {X : Cx} {x : Str} {ps : List Str} {k : Nat} {ds : List V} {sp : Sp} {p pos : Pos} {e : Expr} {es : List Expr} {t : TA} (F : Fx X.prog X.w X.K X.mg X.base x ps k ds sp) (hr : Room k X.A) (hg : Gl X x) (ha : PA X (e :: es) t)
    (hdb : (x == ("__debug__" : Str)) = false := by decide) (he : starEach (e :: es) X.env = (false,eval e X.env) :: starEach es X.env := by rfl) (hpl : (backTo pos (starEach es X.env)).any (·.1) = false := by rfl) :
    PE X (.Call (.Name x p) (e :: es) [] pos) (tCall sp ds E0 t) := by
  obtain ⟨g,fd,its,hm,hk,_,hb,hv,G⟩ := F.ex
  exact pe_call G hr hg hm hk hb hv pass_none ha hdb he hpl
section
variable {X : Cx}
theorem run_fx {pins : List (Addr × Obj)} {s : Shared} {σ : St} {H : Hp} {Q : VK} {R : Value → St → Hp → Prop} {x : Str} {ps : List Str} {k : Nat} {ds : List V} {sp : Sp} {p pos : Pos} {e : Expr} {es : List Expr} {t : TA} (I : Inv X pins σ H s)
    (F : Fx X.prog X.w X.K X.mg X.base x ps k ds sp) (hr : Room k X.A) (hg : Gl X x) (ha : PA X.nox (e :: es) t) (q : t σ H fun vs H1 => sp vs H1 Q fun c _ H2 => R c σ H2)
    (hdb : (x == ("__debug__" : Str)) = false) (he : starEach (e :: es) X.env = (false,eval e X.env) :: starEach es X.env) (hpl : (backTo pos (starEach es X.env)).any (·.1) = false) :
    wpAny (model X.prog X.w) X.A (eval (.Call (.Name x p) (e :: es) [] pos) X.env) (EP X pins σ Q) (XP X pins R) s := by
  obtain ⟨f,fd,its,hm,hk,hb,_,_,G⟩ := F.ex
  refine wpAny_Call_Name_kw (ld_glob I hg hm ?_ hdb)
  refine PySem.W.callWith_K (h₀ := X.base) I.ok.mod.kin hk (wpAny_mono (ha pos pins s σ H _ (I.wish _) q) (fun us s1 ⟨vs,H1,J1,r,q1⟩ => ?_) fun _ _ z => False.elim z) he hpl
  have I1 : Inv X pins σ H1 s1 := J1.unwish
  refine ⟨I1.kIn,?_⟩
  have hl : (us ++ []).length = ps.length := by rw [List.append_nil,← r.length]; exact G.len _ _ _ _ q1
  have hbb := hb s1 us I1.kIn hl
  rw [List.append_nil] at hbb
  refine wpAny_call (codeAny_mono (G.run X.A X.stack s1 H1 ⟨us,[]⟩ us vs Q _ hr I1.env0 hbb r q1) fun rr s' hq => ?_)
  cases rr with
  | error ev => exact ⟨s1,σ,H1,(fun c _ H2 => R c σ H2),I1,hq,fun c o H' z => z⟩
  | ok flw =>
    cases flw with
    | ret u => exact I1.after hq
    | next => exact False.elim hq
    | brk => exact False.elim hq
    | cont => exact False.elim hq
variable {x fn : Str} {i : Nat} {ps : List Str} {k : Nat} {ds : List V} {sp : Sp} {e : Expr} {es : List Expr} {ta : TA} {px pf cpos pos : Pos}
theorem px_set (hN : X.N.Nodup) (hi : X.N[i]? = some x) (hx : Loc X.env.scope x) (F : Fx X.prog X.w X.K X.mg X.base fn ps k ds sp) (hr : Room k X.A) (hg : Gl X fn) (ha : PA X.nox (e :: es) ta)
    (hs : swapsWith (.Call (.Name fn pf) (e :: es) [] cpos) (some (.Name x px)) pos.line X.env = pure false := by rfl) (hf : X.fn x = true ∨ X.env.scope.names.lookup x = some .local := by first | exact .inl rfl | exact .inr rfl | assumption)
    (hdb : (fn == ("__debug__" : Str)) = false := by decide) (he : starEach (e :: es) X.env = (false,eval e X.env) :: starEach es X.env := by rfl) (hpl : (backTo cpos (starEach es X.env)).any (·.1) = false := by rfl) :
    PX X (.Assign [.Name x px] (.Call (.Name fn pf) (e :: es) [] cpos) pos) (fun R D σ H => ta σ H fun vs H1 => sp vs H1 (fun v H2 => D.nx (σ.set i (some v)) H2) fun c _ H2 => R c σ H2) := by
  intro pins s σ H D R I h
  refine wpAny_Assign_Name (thn (run_fx I F hr hg ha h hdb he hpl) fun v s1 ⟨y,H1,I1,r1,q1⟩ => ?_) hs
  exact store_ok I1 hN hi hx r1 (fun s2 I2 => ⟨_,H1,I2,q1⟩) hf
theorem pxs_one {st : Stmt} {t : TX} (h1 : PX X st t) : PXs X [st] t := by
  intro pins s σ H D R I h
  refine wpAny_execs_cons (thn (h1 pins s σ H D R I h) fun f s1 q => ?_)
  cases f with
  | next => exact wpAny_execs_nil q
  | ret v => exact q
  | brk => exact q
  | cont => exact q
end
end L2
namespace Sp2
open PySem PySem.Spec L2 Mth Sp1
def placeL (n : Int) : List V → Bool
  | [.int a,.int b] => lowB a b && (decide (0 ≤ a) && decide (a ≤ n * b))
  | _ => false
def placeV (n : Int) (H : Hp) : V → Bool
  | .ref p => match H p with
    | some (.tup xs) => placeL n xs
    | _ => false
  | _ => false
theorem lowV_inv {H : Hp} {x : V} (h : lowV H x = true) : ∃ p a b,x = .ref p ∧ H p = some (.tup [.int a,.int b]) ∧ Low a b := by
  unfold lowV at h
  split at h
  · split at h
    · rename_i p _ xs e
      unfold lowL at h
      split at h
      · rename_i a b
        unfold lowB at h
        rw [Bool.and_eq_true,decide_eq_true_eq,decide_eq_true_eq] at h
        exact ⟨p,a,b,rfl,e,h.1,h.2⟩
      · cases h
    · cases h
  · cases h
theorem placeV_tup {n : Int} {H : Hp} {p : Addr} {a b : Int} (e : H p = some (.tup [.int a,.int b])) : placeV n H (.ref p) = (lowB a b && (decide (0 ≤ a) && decide (a ≤ n * b))) := by
  simp only [placeV,e,placeL]
theorem lowV_two {H : Hp} {p : Addr} {a b : Int} (e : H p = some (.tup [.int a,.int b])) : lowV H (.ref p) = lowB a b := by
  simp only [lowV,e,lowL]
theorem placeV_low {n : Int} {H : Hp} {x : V} (h : lowV H x = false) : placeV n H x = false := by
  unfold placeV
  split
  · split
    · rename_i p _ xs e
      unfold placeL
      split
      · rename_i a b
        rw [lowV_two e] at h
        rw [h,Bool.false_and]
      · rfl
    · rfl
  · rfl
theorem low_B {a b : Int} (h : Low a b) : lowB a b = true := by
  unfold lowB
  rw [decide_eq_true h.pos,decide_eq_true h.one]
  rfl
theorem placeV_of {n : Int} {H : Hp} {p : Addr} {a b : Int} (e : H p = some (.tup [.int a,.int b])) (h : Low a b) (h0 : 0 ≤ a) (h1 : a ≤ n * b) : placeV n H (.ref p) = true := by
  rw [placeV_tup e,low_B h,decide_eq_true h0,decide_eq_true h1]
  rfl
theorem placeV_inv {n : Int} {H : Hp} {x : V} (h : placeV n H x = true) : ∃ p a b,x = .ref p ∧ H p = some (.tup [.int a,.int b]) ∧ Low a b ∧ 0 ≤ a ∧ a ≤ n * b := by
  cases hl : lowV H x with
  | false =>
    rw [placeV_low hl] at h
    cases h
  | true =>
    obtain ⟨p,a,b,rfl,e,lw⟩ := lowV_inv hl
    rw [placeV_tup e,low_B lw,Bool.true_and,Bool.and_eq_true,decide_eq_true_eq,decide_eq_true_eq] at h
    exact ⟨p,a,b,rfl,e,lw,h.1,h.2⟩
def spLast : Sp := fun vs H Q _ => ∃ (p : Addr) (xs : List V),vs = [.ref p] ∧ H p = some (.lst xs) ∧ Q (.int ((xs.length : Int) - 1)) H
def spIsPlace : Sp := fun vs H Q _ => ∃ (p : Addr) (xs : List V) (x : V),vs = [.ref p,x] ∧ H p = some (.lst xs) ∧ xs.length ≤ 100 ∧ Thing H x ∧ Q (.bl (placeV ((xs.length : Int) - 1) H x)) H
def spLook (C : Addr) : Sp := fun vs H Q E => ∃ (p : Addr) (xs : List V) (x : V),vs = [.ref p,x] ∧ H p = some (.lst xs) ∧ xs.length ≤ 100 ∧ Thing H x ∧ (placeV ((xs.length : Int) - 1) H x = false → E (.ref C) none H) ∧ (placeV ((xs.length : Int) - 1) H x = true → Q .non H)
def shareB (a b c d : Int) : Bool := if c * b < a * d then !decide ((c / d + 1) * b < a * 1) else !decide ((a / b + 1) * d < c * 1)
structure Small (a b : Int) : Prop where
  pos : 0 < b
  ba : bits a ≤ 1000
  bb : bits b ≤ 1000
def spShare : Sp := fun vs H Q _ => ∃ (p q : Addr) (a b c d : Int),vs = [.ref p,.ref q] ∧ H p = some (.tup [.int a,.int b]) ∧ H q = some (.tup [.int c,.int d]) ∧ Small a b ∧ Small c d ∧ ∀ H',Same H H' → Q (.bl (shareB a b c d)) H'
structure LineAt (H : Hp) (l : Addr) (qs : List (Addr × Int × Int)) : Prop where
  lst : H l = some (.lst (qs.map fun q => V.ref q.1))
  crn : ∀ q ∈ qs,H q.1 = some (.tup [.int q.2.1,.int q.2.2]) ∧ bits q.2.1 ≤ 50 ∧ bits q.2.2 ≤ 50
theorem LineAt.mono {H H' : Hp} {l : Addr} {qs : List (Addr × Int × Int)} (L : LineAt H l qs) (s : Same H H') : LineAt H' l qs := ⟨s _ _ L.lst,fun q h => ⟨s _ _ (L.crn q h).1,(L.crn q h).2⟩⟩
theorem lt64s {n : Int} (h0 : -1000 ≤ n) (h1 : n ≤ 1000) : -(2 ^ 64) < n ∧ n < 2 ^ 64 := by
  have e : (2 : Int) ^ 64 = 18446744073709551616 := by decide
  rw [e]
  omega
theorem at_int {ns : List Int} {k : Int} (j : Nat) (e : k = (j : Int)) (h : j < ns.length) : atI (ns.map V.int) k = some (.int ns[j]) := by
  subst e
  exact atI_nat (by rw [List.getElem?_map,List.getElem?_eq_getElem h]; rfl)
theorem at_head (x : V) (xs : List V) : atI (x :: xs) 0 = some x := atI_nat (j := 0) rfl
theorem cut_from {ns : List Int} (k : Nat) : cutV (ns.map V.int) (some (k : Int)) none = (ns.drop k).map V.int := by
  unfold cutV
  rw [HT.sIx_nat,HT.sIx_none,List.length_map,← List.map_drop]
  by_cases h : k ≤ ns.length
  · rw [Nat.min_eq_left h,List.take_of_length_le (by rw [List.length_map,List.length_drop]; exact Nat.le_refl _)]
  · rw [Nat.min_eq_right (by omega),List.drop_eq_nil_of_le (Nat.le_refl _),List.drop_eq_nil_of_le (by omega)]
    simp
theorem bits_small {n : Int} (h0 : -1000 ≤ n) (h1 : n ≤ 1000) : bits n ≤ 10 := by
  refine bits_of (n := 10) ?_
  show _ < 1024
  omega
theorem fl_le {a b : Int} (hb : 0 < b) : a / b * b ≤ a := by
  have h1 := Int.emod_nonneg a (show b ≠ 0 by omega)
  have h2 := Int.emod_add_mul_ediv a b
  rw [Int.mul_comm] at h2
  omega
theorem fl_lt {a b : Int} (hb : 0 < b) : a < (a / b + 1) * b := by
  have h1 := Int.emod_lt_of_pos a hb
  have h2 := Int.emod_add_mul_ediv a b
  rw [Int.add_mul,Int.one_mul,Int.mul_comm]
  omega
theorem fl_ge {a b k : Int} (hb : 0 < b) (h : k * b ≤ a) : k ≤ a / b := (Int.le_ediv_iff_mul_le hb).mpr h
theorem fl_nn {a b : Int} (hb : 0 < b) (h : 0 ≤ a) : 0 ≤ a / b := Int.ediv_nonneg h (by omega)
end Sp2
namespace L2
open PySem PySem.Spec PyProof.Rows
end L2
namespace L2
open PySem PySem.Spec PyProof.Rows
abbrev Cx.blk (X : Cx) (N' : List Str) (scope : Scope) (cl : List (Str × Addr)) (fp : List Addr) (s₀ : Shared) (H₀ : Hp) : Cx :=
  { X with N := N',s₀ := s₀,H₀ := H₀,env := compEnvC scope cl s₀.heap.objs.size X.env,outer := X.stack,ex := fp,fn := fun _ => false,pn := [],xe := fun _ _ => False }
theorem lookup_mem {α : Type} {y : Str} {c : α} : ∀ {l : List (Str × α)},l.lookup y = some c → (y,c) ∈ l
  | [],h => by simp at h
  | (n,d) :: r,h => by
    rw [List.lookup_cons] at h
    cases e : y == n with
    | true =>
      rw [e] at h
      cases h
      rw [beq_iff_eq.mp e]
      exact List.mem_cons_self
    | false =>
      rw [e] at h
      exact List.mem_cons_of_mem _ (lookup_mem h)
structure CompN (X : Cx) (scope : Scope) (cl : List (Str × Addr)) (x : Str) (fv : List (Str × Nat)) : Prop where
  clos : closureFor scope X.env = pure cl
  kind : scope.kind = .function
  cell : ∀ y ∈ scope.names,y.2 ≠ .cell
  names : ∀ y ∈ scope.names,y.2 = .local → scope.names.lookup y.1 = some .local
  own : scope.names.lookup x = some .local
  cells : ∀ p ∈ cl,X.env.cells.lookup p.1 = some p.2
  has : ((relabel scope X.env).names.all fun q => !(q.2 == .cell || q.2 == .free) || (cl.lookup q.1).isSome) = true
  nd : (x :: fv.map (·.1)).Nodup
  slot : ∀ p ∈ fv,X.N[p.2]? = some p.1 ∧ X.env.kindOf p.1 = some .cell ∧ Vis X.env.scope p.1 ∧ (cl.lookup p.1).isSome = true ∧ ((relabel scope X.env).names.lookup p.1 = some .cell)
  stk : X.stack = X.env :: X.outer ∧ X.env.frame = some X.env.locals
  noex : X.ex = []
def fvs (fv : List (Str × Nat)) (σ : St) : St := fv.map fun p => (σ[p.2]?).join
def tComp (wi : TI) (fv : List (Str × Nat)) (te : TE) : TE := fun σ H Q => wi σ H fun J H1 => ∀ p,H1 p = none → ∃ W : Nat → Nat → List V → Hp → Prop,(∃ m,W 0 m [] (upd H1 p (.lst []))) ∧ ∀ i m acc H2,W i m acc H2 →
  H2 p = some (.lst acc) ∧ acc.length < sizeLine ∧ ((J.stop i H2 ∧ Q (.ref p) H2) ∨ (J.go i H2 ∧ ∀ x H3,J.yld i H2 x H3 → te (some x :: fvs fv σ) H3 fun y H4 => H4 p = some (.lst acc) ∧ ∃ m',m' < m ∧ W (i + 1) m' (acc ++ [y]) (upd H4 p (.lst (acc ++ [y])))))
section
variable {X : Cx} {scope : Scope} {cl : List (Str × Addr)} {x : Str} {fv : List (Str × Nat)} {elt iter : Expr} {px pos : Pos} {te : TE}
theorem blk_ok {pins : List (Addr × Obj)} {σ : St} {H : Hp} {s : Shared} {fp : List Addr} (C : CompN X scope cl x fv) (I : Inv X pins σ H s) (hf : ∀ b ∈ fp,FpOk X pins H b) (ho : ∀ b ∈ fp,b < s.heap.objs.size) : (X.blk (x :: fv.map (·.1)) scope cl fp s H).Ok := by
  have hcl : ∀ y c,cl.lookup y = some c → X.env.cells.lookup y = some c := fun y c h => C.cells _ (lookup_mem h)
  have old : ∀ b ∈ fp,X.s₀.heap.objs.size ≤ b := fun b hb => by
    rcases (hf b hb).2.2.2.1 with z | z
    · rw [C.noex] at z
      cases z
    · exact z
  refine ⟨I.ok.mod,by show (relabel scope X.env).kind = _; exact C.kind,I.ok.glob,I.ok.blt,Nat.le_refl _,fun y z c h1 h2 => I.ok.inj y z c (hcl y c h1) (hcl z c h2),fun y hy => ?_,(fun y c h => by cases h),I.ok.hd,I.ok.frames,.inl rfl,fun b hb => ?_,fun b o e => I.bs b o e,Nat.le_trans I.ok.bsz I.sz,fun b o e hb => ?_,fun b hb hm => ?_,I.stack,I.stkFree⟩
  · have q := C.has
    rw [List.all_eq_true] at q
    have hm : ∃ k,(y,k) ∈ (relabel scope X.env).names ∧ (k = .cell ∨ k = .free) := by
      rcases hy with hy | hy
      · exact ⟨_,lookup_mem hy,.inl rfl⟩
      · exact ⟨_,lookup_mem hy,.inr rfl⟩
    obtain ⟨k,hk,hk2⟩ := hm
    have q2 := q _ hk
    have q3 : (cl.lookup y).isSome = true := by
      rcases hk2 with rfl | rfl
      · simpa using q2
      · simpa using q2
    exact Option.isSome_iff_exists.mp q3
  · obtain ⟨f0,f1,f2,f3,f4,f5⟩ := hf b hb
    refine ⟨?_,fun y c h => f4 y c (hcl y c h)⟩
    exact Nat.ne_of_lt (ho b hb)
  · have z := Heap.lt_size e
    have z2 := old b hb
    exact absurd (Nat.lt_of_lt_of_le z (Nat.le_trans I.ok.bsz z2)) (Nat.lt_irrefl _)
  · obtain ⟨f0,f1,f2,f3,f4,f5⟩ := hf b hb
    rcases List.mem_cons.mp (I.stkSub b hm) with z | z
    · exact f1 z
    · exact f2 z
theorem blk_inv {pins : List (Addr × Obj)} {σ : St} {H : Hp} {s s4 : Shared} {fp : List Addr} (C : CompN X scope cl x fv) (I : Inv X pins σ H s) (hf : ∀ b ∈ fp,FpOk X pins H b) (ho : ∀ b ∈ fp,b < s.heap.objs.size)
    (hs : s4.os = s.os ∧ s4.gens = s.gens) (ns : s4.heap.Ns s.heap.objs.size fun _ => none) (kp : ∀ b o,s.heap.get? b = some o → s4.heap.get? b = some o) :
    Inv (X.blk (x :: fv.map (·.1)) scope cl fp s H) [] (none :: fvs fv σ) H s4 := by
  have hcl : ∀ y c,cl.lookup y = some c → X.env.cells.lookup y = some c := fun y c h => C.cells _ (lookup_mem h)
  refine ⟨blk_ok C I hf ho,hs.1,by rw [hs.2]; exact I.bare,Un.kept kp,⟨_,ns,fun i y v e1 e2 e3 => ?_⟩,fun y c h => ?_,I.hok.fresh (Nat.le_refl _),fun y c h => I.freeC y c (hcl y c h),fun p hp => by simp at hp,I.hok.kept kp,by simp [fvs]⟩
  · cases i with
    | zero => simp at e2
    | succ j =>
      have e1' : (fv.map (·.1))[j]? = some y := by simpa using e1
      have e2' : (fvs fv σ)[j]? = some (some v) := by simpa using e2
      rw [List.getElem?_map] at e1'
      unfold fvs at e2'
      rw [List.getElem?_map] at e2'
      cases hq : fv[j]? with
      | none =>
        rw [hq] at e1'
        cases e1'
      | some q =>
        rw [hq] at e1' e2'
        have ey : q.1 = y := Option.some.inj e1'
        have ev : (σ[q.2]?).join = some v := Option.some.inj e2'
        have hm : q ∈ fv := List.mem_of_getElem? hq
        obtain ⟨s1,s2,s3,s4',s5⟩ := C.slot q hm
        have ev2 : σ[q.2]? = some (some v) := by
          cases hz : σ[q.2]? with
          | none =>
            rw [hz] at ev
            cases ev
          | some z =>
            rw [hz] at ev
            have ev' : z = some v := ev
            rw [ev']
        obtain ⟨m,hn,hl⟩ := I.loc
        obtain ⟨u,r,lk⟩ := hl q.2 q.1 v s1 ev2 s3
        obtain ⟨c,hc⟩ := Option.isSome_iff_exists.mp s4'
        refine ⟨u,r,.inr ⟨.inl (by rw [← ey]; exact s5),c,by rw [← ey]; exact hc,?_⟩⟩
        rcases lk with ⟨k,_⟩ | ⟨_,c',hc',z⟩
        · rw [s2] at k
          cases k
        · rw [hcl _ _ hc] at hc'
          cases hc'
          obtain ⟨o,ho',hd⟩ := z
          exact ⟨o,kp _ _ ho',hd⟩
  · obtain ⟨v,o,ho',hd⟩ := I.cell y c (hcl y c h)
    exact ⟨v,o,kp _ _ ho',hd⟩
theorem blk_run {pins : List (Addr × Obj)} {σ : St} {H2 : Hp} {s2 : Shared} {it : Addr} {fp : List Addr} {tn : Nat → Heap → Prop} {J : It} {RR : Value → Addr → Result → Shared → Prop} {E : Value → Shared → Prop} {Qf : V → Hp → Prop}
    (hcalm : X.calm = true) (C : CompN X scope cl x fv) (I2 : Inv X pins σ H2 s2) (T : Turn X.prog X.w X.K (.Name x px) J fp it tn) (st : tn 0 s2.heap) (f2 : ∀ b ∈ fp,FpOk X pins H2 b)
    (rd : ∀ p,H2 p = none → ∃ W : Nat → Nat → List V → Hp → Prop,(∃ m,W 0 m [] (upd H2 p (.lst []))) ∧ ∀ i m acc H2,W i m acc H2 →
      H2 p = some (.lst acc) ∧ acc.length < sizeLine ∧ ((J.stop i H2 ∧ Qf (.ref p) H2) ∨ (J.go i H2 ∧ ∀ x H3,J.yld i H2 x H3 → te (some x :: fvs fv σ) H3 fun y H4 => H4 p = some (.lst acc) ∧ ∃ m',m' < m ∧ W (i + 1) m' (acc ++ [y]) (upd H4 p (.lst (acc ++ [y]))))))
    (he : ∀ (s₀ : Shared) (H₀ : Hp),PE (X.blk (x :: fv.map (·.1)) scope cl fp s₀ H₀) elt te)
    (hRR : ∀ (p C : Addr) (H' : Hp) (s' : Shared),(∃ m,s'.heap.Ns C m) → C ≠ X.env.locals → H' C = none → X.s₀.heap.objs.size ≤ C → (∀ y c,X.env.cells.lookup y = some c → c ≠ C) → (∀ q ∈ X.pn ++ pins,q.1 ≠ C) → Inv X pins σ H' s' → Qf (.ref p) H' → RR (.ref p) C (.ok .next) s') :
    wpAny (model X.prog X.w) X.A (newList []) (fun acc s₃ => wpAny (model X.prog X.w) X.A (newFunctionEnv scope X.env.globals cl [] X.env.qual none .none (some X.env)) (fun cenv s₄ =>
      codeAny (model X.prog X.w) X.A (.compStart (.ListComp elt [⟨.Name x px,iter,[],0⟩] scope pos) 0 (.ref it) acc { cenv with scope := relabel scope X.env }) (RR acc cenv.locals) s₄) E s₃) E s2 := by
  refine wpAny_newObj_type ?_
  have hfresh := I2.fresh
  have I3 : Inv X pins σ (upd H2 s2.heap.objs.size (.lst [])) { s2 with heap := s2.heap.push { cls := .type "list",data := .seq ([] : List Value).toArray } } :=
    I2.laid (t' := s2.toks) (fun b u q => Heap.get?_push_of_some _ q) (Nat.le_refl _) ⟨Nat.zero_le _,[],0,.nil,Heap.get?_push_size _ rfl⟩
  generalize hs3 : ({ s2 with heap := s2.heap.push { cls := .type "list",data := .seq ([] : List Value).toArray } } : Shared) = s3 at I3 ⊢
  have hp3 : s2.heap.objs.size < s3.heap.objs.size := by rw [← hs3]; exact Nat.lt_of_lt_of_le (Nat.lt_succ_self _) (Nat.le_of_eq (Heap.size_push _ _).symm)
  have k23 : ∀ b o,s2.heap.get? b = some o → s3.heap.get? b = some o := fun b o e => by rw [← hs3]; exact Heap.get?_push_of_some _ e
  have fpo : ∀ b ∈ fp,b < s2.heap.objs.size := fun b hb => by
    obtain ⟨o,e,_⟩ := T.obj 0 _ st b hb
    exact Heap.lt_size e
  have f3 : ∀ b ∈ fp,FpOk X pins (upd H2 s2.heap.objs.size (.lst [])) b := fun b hb => ⟨by rw [upd_ne (Nat.ne_of_lt (fpo b hb))]; exact (f2 b hb).1,(f2 b hb).2⟩
  refine wpAny_newFunctionEnv C.cell (by intro y hy; simp at hy) (fun h1 hns1 hsb1 => ?_) C.kind
  have kp : ∀ b o,s3.heap.get? b = some o → h1.get? b = some o := fun b o e => (hsb1.2 b (Nat.ne_of_lt (Heap.lt_size e))).trans (Heap.get?_push_of_some _ e)
  have I4 := blk_inv (s4 := { s3 with heap := h1,toks := s3.toks + ([] : List (Str × Value)).length }) C I3 f3 (fun b hb => Nat.lt_trans (fpo b hb) hp3) ⟨rfl,rfl⟩ hns1 kp
  have st4 : tn 0 h1 := T.keep 0 _ _ st fun b _ o e => kp b o (k23 b o e)
  obtain ⟨W,⟨m0,w0⟩,step⟩ := rd _ hfresh
  have loop : codeAny (model X.prog X.w) X.A (.compLoop (.ListComp elt [⟨.Name x px,iter,[],0⟩] scope pos) 0 (.ref it) (.ref s2.heap.objs.size) (compEnvC scope cl s3.heap.objs.size X.env)) (RR (.ref s2.heap.objs.size) s3.heap.objs.size)
      { s3 with heap := h1,toks := s3.toks + ([] : List (Str × Value)).length } := by
    refine codeAny_compLoop_list (fun n s => ∃ i acc σv H',Inv (X.blk (x :: fv.map (·.1)) scope cl fp s3 (upd H2 s2.heap.objs.size (.lst []))) [] (σv :: fvs fv σ) H' s ∧ tn i s.heap ∧ (∀ b ∈ fp,H' b = none) ∧ W i n acc H') ?_ m0 ⟨0,[],none,_,I4,st4,fun b hb => (f3 b hb).1,w0⟩
    rintro n s ⟨i,acc,σv,H',I',st',fr',w'⟩
    obtain ⟨hp,hlen,alt⟩ := step i n acc H' w'
    have fpk : ∀ {H5 : Hp},(∀ b ∈ fp,H5 b = none) → ∀ b ∈ fp,FpOk (X.blk (x :: fv.map (·.1)) scope cl fp s3 (upd H2 s2.heap.objs.size (.lst []))) [] H5 b := fun h5 b hb =>
      ⟨h5 b hb,(I'.ok.exf b hb).1,I'.ok.exfs b hb,.inl hb,fun y c e => (I'.ok.exf b hb).2 y c e,fun q hq => by simp at hq⟩
    rcases alt with ⟨stop,qf⟩ | ⟨go,turn⟩
    · refine wpAny_mono (T.done (X.blk (x :: fv.map (·.1)) scope cl fp s3 (upd H2 s2.heap.objs.size (.lst []))) rfl rfl rfl hcalm i [] s _ H' (fun _ _ => False) I' (fpk fr') st' stop) (fun r s5 ⟨hr,I5⟩ => ?_) fun _ _ z => False.elim z
      subst hr
      refine hRR _ _ H' s5 (let ⟨m,hn,_⟩ := I5.loc; ⟨m,hn⟩) (Nat.ne_of_gt I3.lt) I5.free I3.sz (fun y c e => ?_) (fun q hq => ?_) ?_ qf
      · obtain ⟨v,z⟩ := I3.cell y c e
        exact Nat.ne_of_lt z.lt
      · exact Nat.ne_of_lt (Heap.lt_size (I3.pin q hq).1)
      · exact I3.call' (s' := s5) (ch := fp) I5.os I5.base I5.hok I5.bare fun b hb => ⟨(f2 b hb).2.2.2.1,(f2 b hb).2.1,(f2 b hb).2.2.2.2.1,(f2 b hb).2.2.2.2.2⟩
    · refine wpAny_mono (T.item (X.blk (x :: fv.map (·.1)) scope cl fp s3 (upd H2 s2.heap.objs.size (.lst []))) rfl rfl rfl hcalm i [] s _ H' (fun _ _ => False) I' (fpk fr') st' go) (fun r s5 ⟨u,hr,h5⟩ => ?_) fun _ _ z => False.elim z
      subst hr
      have e5 : assign (.Name x px) (compEnvC scope cl s3.heap.objs.size X.env) u = (letOwnedTupleGo (.Name x px) (.ref it) u >>= fun _ => assign (.Name x px) (compEnvC scope cl s3.heap.objs.size X.env) u) := by
        rw [show letOwnedTupleGo (.Name x px) (.ref it) u = pure () from rfl]
        rfl
      show wpAny _ _ (assign (.Name x px) (compEnvC scope cl s3.heap.objs.size X.env) u) _ _ _
      rw [e5]
      refine wpAny_bind (wpAny_mono h5 (fun _ s6 ⟨y,H6,I6,r6,y6,st6,fr6⟩ => ?_) fun _ _ z => False.elim z)
      have I6' := I6.pinned (fpk fr6) (T.obj _ _ st6)
      have lx : (relabel scope X.env).names.lookup x = some .local := lookup_relabel_local C.own
      refine wpAny_mono (pg_name (X := X.blk (x :: fv.map (·.1)) scope cl fp s3 (upd H2 s2.heap.objs.size (.lst []))) (i := 0) C.nd rfl (.inl lx) (.inr lx) _ s6 _ H6 y u (fun σ7 H7 => σ7 = some y :: fvs fv σ ∧ H7 = H6) I6' r6 ⟨rfl,rfl⟩) (fun _ s7 ⟨σ7,H7,I7,e7,e7'⟩ => ?_) fun _ _ z => False.elim z
      subst e7 e7'
      refine wpAny_mono (he s3 _ _ s7 _ _ _ I7 (turn y _ y6)) (fun v8 s8 ⟨y8,H8,I8,r8,q8,m',hm',w8⟩ => ?_) fun _ _ z => False.elim z
      refine wpAny_mono (mt_append (X := X.blk (x :: fv.map (·.1)) scope cl fp s3 (upd H2 s2.heap.objs.size (.lst []))) _ s8 _ H8 (.ref s2.heap.objs.size) [y8] (.ref s2.heap.objs.size) [v8] (fun _ H9 => H9 = upd H8 s2.heap.objs.size (.lst (acc ++ [y8]))) I8 rfl (.cons r8 .nil) ⟨_,acc,y8,rfl,rfl,q8,hlen,rfl⟩) (fun _ s9 ⟨_,H9,I9,_,e9⟩ => ?_) fun _ _ z => False.elim z
      subst e9
      refine ⟨m',hm',i + 1,acc ++ [y8],some y,_,I9.unpinned,T.keep _ _ _ st6 fun b hb o e => (I9.pin (b,o) (List.mem_append_right _ (List.mem_append_right _ (mem_pinsAt hb e)))).1,fun b hb => ?_,w8⟩
      obtain ⟨o,e,d⟩ := T.obj _ _ st6 b hb
      exact (I9.pin (b,o) (List.mem_append_right _ (List.mem_append_right _ (mem_pinsAt hb e)))).2.1
  exact codeAny_compStart_list loop (T.self _ 0 _ _ _ st4 loop)
theorem pe_comp {wi : TI} (hcalm : X.calm = true) (C : CompN X scope cl x fv) (hi : PI X (.Name x px) iter wi) (he : ∀ (fp : List Addr) (s₀ : Shared) (H₀ : Hp),PE (X.blk (x :: fv.map (·.1)) scope cl fp s₀ H₀) elt te)
    (hs : ∀ v,foldedSetIterable iter X.env v = pure v := by intro _; rfl) : PE X (.ListComp elt [⟨.Name x px,iter,[],0⟩] scope pos) (tComp wi fv te) := by
  intro pins s σ H Q I h
  rw [eval_ListComp]
  refine wpAny_comprehension_free (use := none) rfl hs C.clos C.kind C.names (wpAny_mono (hi pins s σ H _ I h) (fun v s1 h1 => wpAny_mono h1 (fun itv s2 h2 => ?_) fun _ _ z => z) fun _ _ z => z)
  obtain ⟨it,fp,tn,J,H2,rfl,I2,T,st2,f2,rd⟩ := h2
  refine blk_run (Qf := Q) hcalm C I2 T st2 f2 rd (he fp) fun p D H' s' ns nL nH n0 nC nP I8 q => ?_
  obtain ⟨m,hn⟩ := ns
  exact ⟨m,hn,fun h'' sb => ⟨.ref p,H',I8.turned (t' := s'.toks) (fun b o hb e => (sb.2 b hb).trans e) nH nL (.inr n0) nC nP,rfl,q⟩⟩
theorem ps_setComp {wi : TI} {y : Str} {j : Nat} {py spos : Pos} (hcalm : X.calm = true) (C : CompN X scope cl x fv) (hN : X.N.Nodup) (hj : X.N[j]? = some y) (hy : X.env.scope.names.lookup y = some .local) (hi : PI X (.Name x px) iter wi) (he : ∀ (fp : List Addr) (s₀ : Shared) (H₀ : Hp),PE (X.blk (x :: fv.map (·.1)) scope cl fp s₀ H₀) elt te)
    (hsw : swapsWith (.ListComp elt [⟨.Name x px,iter,[],0⟩] scope pos) (some (.Name y py)) spos.line X.env = pure true := by rfl)
    (hs : ∀ v,foldedSetIterable iter X.env v = pure v := by intro _; rfl) : PS X (.Assign [.Name y py] (.ListComp elt [⟨.Name x px,iter,[],0⟩] scope pos) spos) (tAsg (tComp wi fv te) (gName j)) := by
  intro pins s σ H D I h
  rw [exec_Assign_Name_used _ _ _ _ hsw]
  refine wpAny_bind (wpAny_standAt (wpAny_bind ?_))
  show wpAny _ _ (do let _ ← comprehension (.ListComp elt [⟨.Name x px,iter,[],0⟩] scope pos) scope X.env _ (newList []) false (eval iter X.env) (some (assign (.Name y py) X.env))) _ _ s
  refine wpAny_bind (wpAny_mono (wpAny_comprehension_free (use := some (assign (.Name y py) X.env)) (Q := fun _ s' => SP X pins D .next s') rfl hs C.clos C.kind C.names
    (wpAny_mono (hi pins s σ H _ I h) (fun v s1 h1 => wpAny_mono h1 (fun itv s2 h2 => ?_) fun _ _ z => z) fun _ _ z => z)) (fun _ s' hq => wpAny_pure (wpAny_pure hq)) fun _ _ z => z)
  obtain ⟨it,fp,tn,J,H2,rfl,I2,T,st2,f2,rd⟩ := h2
  refine blk_run (Qf := fun v H' => gName j v σ H' D.nx) hcalm C I2 T st2 f2 rd (he fp) fun p D' H' s' ns nL nH n0 nC nP I8 q => ?_
  obtain ⟨m,hn⟩ := ns
  show wpAny _ _ (assign (.Name y py) X.env (.ref p)) _ _ _
  refine wpAny_assign_Name (store_ok2 I8 hN hj (.inl hy) (v := .ref p) rfl (fun s9 I9 ⟨a,sb,ha⟩ => ?_) (.inr hy))
  have aD : D' ≠ a := by
    rintro rfl
    rcases ha with z | z
    · exact nL z
    · exact nC y _ z rfl
  exact ⟨m,hn.sameBut sb aD,fun h'' sb2 => ⟨_,H',I9.turned (t' := s9.toks) (fun b o hb e => (sb2.2 b hb).trans e) nH nL (.inr n0) nC nP,q⟩⟩
end
end L2
namespace L2
open PySem PySem.Spec PyProof.Rows
def setScope (s : Stmt) : Scope := match s with
  | .Assign _ (.ListComp _ _ sc _) _ => sc
  | _ => { kind := .function,names := [],isGenerator := false,isCoroutine := false }
end L2
namespace L2
open PySem PySem.Spec PyProof.Rows
theorem ix_tupK {X : Cx} {K : PySem.W.Frag} (h : X.K = K) : IxR X (rIxT K) := h ▸ ix_tup
end L2
namespace L2
open PySem PySem.Spec PyProof.Rows
theorem comp_list {K : PySem.W.Frag} {a : Addr} {xs : List V} {fv : List (Str × Nat)} {te : TE} {σ : St} {H1 : Hp} {Qp : Hp → Prop} {l : Addr} (Pv : Nat → List V → Hp → Prop) (h0 : Pv 0 [] (upd H1 l (.lst []))) (hp : ∀ i acc H2,i ≤ xs.length → Pv i acc H2 → SqL K H2 a xs ∧ H2 l = some (.lst acc) ∧ acc.length < sizeLine)
    (hs : ∀ i x acc H2 (Kc : VK),xs[i]? = some x → Pv i acc H2 → (∀ y H4,H4 l = some (.lst acc) → Pv (i + 1) (acc ++ [y]) (upd H4 l (.lst (acc ++ [y]))) → Kc y H4) → te (some x :: fvs fv σ) H2 Kc) (hd : ∀ acc H2,Pv xs.length acc H2 → Qp H2) :
    ∃ W : Nat → Nat → List V → Hp → Prop,(∃ m,W 0 m [] (upd H1 l (.lst []))) ∧ ∀ i m acc H2,W i m acc H2 →
      H2 l = some (.lst acc) ∧ acc.length < sizeLine ∧ (((Itl K a).stop i H2 ∧ Qp H2) ∨ ((Itl K a).go i H2 ∧ ∀ x H3,(Itl K a).yld i H2 x H3 → te (some x :: fvs fv σ) H3 fun y H4 => H4 l = some (.lst acc) ∧ ∃ m',m' < m ∧ W (i + 1) m' (acc ++ [y]) (upd H4 l (.lst (acc ++ [y]))))) := by
  refine ⟨fun i m acc H2 => m = xs.length - i ∧ i ≤ xs.length ∧ Pv i acc H2,⟨xs.length,by simp,Nat.zero_le _,h0⟩,?_⟩
  rintro i m acc H2 ⟨rfl,hi,p⟩
  obtain ⟨q1,q2,q3⟩ := hp i acc H2 hi p
  refine ⟨q2,q3,?_⟩
  by_cases hlt : i < xs.length
  · refine .inr ⟨⟨xs,xs[i],q1,List.getElem?_eq_getElem hlt⟩,fun x H3 y => ?_⟩
    obtain ⟨e1,e2⟩ := y
    subst e1
    exact hs i x acc _ _ (e2 xs q1) p fun y H4 z1 z2 => ⟨z1,xs.length - (i + 1),by omega,rfl,hlt,z2⟩
  · have e : i = xs.length := by omega
    subst e
    exact .inl ⟨⟨xs,q1,Nat.le_refl _⟩,hd acc H2 p⟩
end L2
namespace L2
open PySem PySem.Spec PyProof.Rows
theorem val_get {xs : List V} {us : List Value} {j : Nat} (r : Vals xs us) (h : j < us.length) : ∃ a,xs[j]? = some a ∧ RelV a us[j] := by
  have hl := r.length
  have hj : j < xs.length := by omega
  obtain ⟨u,e,q⟩ := r.get (i := j) (x := xs[j]) (List.getElem?_eq_getElem hj)
  rw [List.getElem?_eq_getElem h] at e
  cases e
  exact ⟨xs[j],List.getElem?_eq_getElem hj,q⟩
section
variable {X : Cx} {pins : List (Addr × Obj)} {σ : St} {H : Hp} {s : Shared}
end
end L2
namespace L2
open PySem
theorem Room.units10 {k : Nat} {A : Around} (r : Room k A) : A.units + 10 < cLine := by have := r.un; omega
end L2
namespace L2
open PySem PySem.Spec PyProof.Rows
def CPX (i j : Int) : Prop := 0 ≤ j ∧ (Builtin.Int.intBits i : Int) * j ≤ 2 ^ 27
theorem op_powX {X : Cx} : OpR X (binaryOp .Pow) (rI CPX fun i j => .int (i ^ j.toNat)) := opI fun _ _ _ _ _ _ _ hc q => pow_int hc.1 hc.2 q
theorem cpx2 {i : Int} {n : Nat} (h : bits i ≤ n) (hn : n ≤ 100000) : CPX i 2 := ⟨by decide,by
  have e : (2 : Int) ^ 27 = 134217728 := by decide
  have h' : Builtin.Int.intBits i ≤ n := h
  rw [e]
  omega⟩
end L2
namespace Sp3
open PySem PySem.Spec L2 Mth Sp1 Sp2
def spRatioN (C : Addr) : Sp := fun vs H Q E => ∃ (a b : Int) (n : Nat),vs = [.int a,.int b] ∧ (bits a ≤ n ∧ bits b ≤ n ∧ n ≤ 2000) ∧ (b = 0 → E (.ref C) none H) ∧
  (b ≠ 0 → ∀ (p : Addr) (t u : Int),Frac a b t u → bits t ≤ n → bits u ≤ n → H p = none → Q (.ref p) (upd H p (.tup [.int t,.int u])))
structure Fr2 (H : Hp) (p : Addr) (a b : Int) (n : Nat) : Prop where
  at_ : H p = some (.tup [.int a,.int b])
  low : Low a b
  ba : bits a ≤ n
  bb : bits b ≤ n
theorem Fr2.mono {H H' : Hp} {p : Addr} {a b : Int} {n : Nat} (f : Fr2 H p a b n) (s : Same H H') : Fr2 H' p a b n := ⟨s _ _ f.at_,f.low,f.ba,f.bb⟩
def spBin (num den : Int → Int → Int → Int → Int) : Sp := fun vs H Q _ => ∃ (p q : Addr) (a b c d : Int) (n : Nat),vs = [.ref p,.ref q] ∧ Fr2 H p a b n ∧ Fr2 H q c d n ∧ n ≤ 900 ∧ den a b c d ≠ 0 ∧
  ∀ (r : Addr) (t u : Int) (H' : Hp),Frac (num a b c d) (den a b c d) t u → Fr2 H' r t u (2 * n + 1) → Same H H' → Q (.ref r) H'
def numAt (x y t b : Int) : Int := x * b + (y - x) * (t % b)
def spNumAt : Sp := fun vs H Q _ => ∃ (x y : Int) (p : Addr) (t b : Int),vs = [.int x,.int y,.ref p] ∧ Fr2 H p t b 120 ∧ bits x ≤ 60 ∧ bits y ≤ 60 ∧
  ∀ (r : Addr) (u v : Int) (H' : Hp),Frac (numAt x y t b) b u v → Fr2 H' r u v 182 → Same H H' → Q (.ref r) H'
def side0 (qs : List (Addr × Int × Int)) (t b : Int) : Int × Int := (qs.getD (t / b).toNat (0,0,0)).2
def side1 (qs : List (Addr × Int × Int)) (t b : Int) : Int × Int := (qs.getD (min ((t / b).toNat + 1) (qs.length - 1)) (0,0,0)).2
def ptX (qs : List (Addr × Int × Int)) (t b : Int) : Int := numAt (side0 qs t b).1 (side1 qs t b).1 t b
def ptY (qs : List (Addr × Int × Int)) (t b : Int) : Int := numAt (side0 qs t b).2 (side1 qs t b).2 t b
structure PtAt (H : Hp) (r : Addr) (X Y b : Int) (n : Nat) : Prop where
  ex : ∃ (rx ry : Addr) (u v c d : Int),H r = some (.tup [.ref rx,.ref ry]) ∧ Fr2 H rx u v n ∧ Fr2 H ry c d n ∧ Frac X b u v ∧ Frac Y b c d
theorem PtAt.mono {H H' : Hp} {r : Addr} {X Y b : Int} {n : Nat} (p : PtAt H r X Y b n) (s : Same H H') : PtAt H' r X Y b n := by
  obtain ⟨rx,ry,u,v,c,d,e,f,g,h,k⟩ := p.ex
  exact ⟨⟨rx,ry,u,v,c,d,s _ _ e,f.mono s,g.mono s,h,k⟩⟩
def spPoint (C : Addr) : Sp := fun vs H Q E => ∃ (l : Addr) (qs : List (Addr × Int × Int)) (x : V),vs = [.ref l,x] ∧ LineAt H l qs ∧ 1 ≤ qs.length ∧ qs.length ≤ 20 ∧ Thing H x ∧ (placeV ((qs.length : Int) - 1) H x = false → E (.ref C) none H) ∧
  (∀ (p : Addr) (t b : Int),x = .ref p → H p = some (.tup [.int t,.int b]) → Low t b → 0 ≤ t → t ≤ ((qs.length : Int) - 1) * b → bits t ≤ 120 ∧ bits b ≤ 120 ∧
    ∀ (r : Addr) (H' : Hp),PtAt H' r (ptX qs t b) (ptY qs t b) b 182 → Same H H' → Q (.ref r) H')
end Sp3
namespace Sp3
open PySem PySem.Spec L2 Mth Sp1 Sp2
structure PtF (H : Hp) (r : Addr) (u v c d : Int) (n : Nat) : Prop where
  ex : ∃ rx ry : Addr,H r = some (.tup [.ref rx,.ref ry]) ∧ Fr2 H rx u v n ∧ Fr2 H ry c d n
def spStep : Sp := fun vs H Q _ => ∃ (p q : Addr) (u v c d u' v' c' d' : Int),vs = [.ref p,.ref q] ∧ PtF H p u v c d 182 ∧ PtF H q u' v' c' d' 182 ∧
  ∀ (r : Addr) (a b e f : Int) (H' : Hp),Frac (u' * v - u * v') (v' * v) a b → Frac (c' * d - c * d') (d' * d) e f → PtF H' r a b e f 365 → Same H H' → Q (.ref r) H'
def spInner : Sp := fun vs H Q _ => ∃ (p : Addr) (a b e f : Int),vs = [.ref p,.ref p] ∧ PtF H p a b e f 365 ∧
  ∀ (r : Addr) (m n m' n' s w : Int) (H' : Hp),Frac (a * a) (b * b) m n → Frac (e * e) (f * f) m' n' → Frac (m * n' + m' * n) (n * n') s w → Fr2 H' r s w 1463 → Same H H' → Q (.ref r) H'
def sqN (X Y b X' Y' b' : Int) : Int := (X' * b - X * b') * (X' * b - X * b') + (Y' * b - Y * b') * (Y' * b - Y * b')
def sqD (b b' : Int) : Int := (b * b') * (b * b')
def spSqB : Sp := fun vs H Q _ => ∃ (p q : Addr) (X Y b X' Y' b' : Int),vs = [.ref p,.ref q] ∧ PtAt H p X Y b 182 ∧ PtAt H q X' Y' b' 182 ∧ 0 < b ∧ 0 < b' ∧
  ∀ (r : Addr) (s w : Int) (H' : Hp),Frac (sqN X Y b X' Y' b') (sqD b b') s w → Fr2 H' r s w 1463 → Same H H' → Q (.ref r) H'
theorem diff_eq {X b X' b' u v u' v' a e : Int} (hv : v ≠ 0) (hv' : v' ≠ 0) (h1 : X * v = u * b) (h2 : X' * v' = u' * b') (h3 : (u' * v - u * v') * e = a * (v' * v)) : (X' * b - X * b') * e = a * (b * b') := by
  have z : (v * v') * ((X' * b - X * b') * e) = (v * v') * (a * (b * b')) := by
    have z1 : (v * v') * ((X' * b - X * b') * e) = (X' * v' * (b * v) - X * v * (b' * v')) * e := by grind
    rw [z1,h1,h2]
    have z2 : (u' * b' * (b * v) - u * b * (b' * v')) * e = b * b' * ((u' * v - u * v') * e) := by grind
    rw [z2,h3]
    grind
  exact Int.eq_of_mul_eq_mul_left (Int.mul_ne_zero hv hv') z
theorem sq_eq {D B a e m n : Int} (he : e ≠ 0) (h1 : D * e = a * B) (h2 : a * a * n = m * (e * e)) : D * D * n = m * (B * B) := by
  have z : (e * e) * (D * D * n) = (e * e) * (m * (B * B)) := by
    have z1 : (e * e) * (D * D * n) = (D * e) * (D * e) * n := by grind
    rw [z1,h1]
    have z2 : a * B * (a * B) * n = B * B * (a * a * n) := by grind
    rw [z2,h2]
    grind
  exact Int.eq_of_mul_eq_mul_left (Int.mul_ne_zero he he) z
theorem sum_eq {S T G m n m' n' s w : Int} (hn : n ≠ 0) (hn' : n' ≠ 0) (h1 : S * n = m * G) (h2 : T * n' = m' * G) (h3 : (m * n' + m' * n) * w = s * (n * n')) : (S + T) * w = s * G := by
  have z : (n * n') * ((S + T) * w) = (n * n') * (s * G) := by
    have z1 : (n * n') * ((S + T) * w) = (S * n * n' + T * n' * n) * w := by grind
    rw [z1,h1,h2]
    have z2 : (m * G * n' + m' * G * n) * w = G * ((m * n' + m' * n) * w) := by grind
    rw [z2,h3]
    grind
  exact Int.eq_of_mul_eq_mul_left (Int.mul_ne_zero hn hn') z
theorem sq_frac {X Y b X' Y' b' u v c d u' v' c' d' a e a' e' m n m' n' s w : Int} (f1 : Frac X b u v) (f2 : Frac Y b c d) (f3 : Frac X' b' u' v') (f4 : Frac Y' b' c' d') (g1 : Frac (u' * v - u * v') (v' * v) a e) (g2 : Frac (c' * d - c * d') (d' * d) a' e')
    (k1 : Frac (a * a) (e * e) m n) (k2 : Frac (a' * a') (e' * e') m' n') (k3 : Frac (m * n' + m' * n) (n * n') s w) : Frac (sqN X Y b X' Y' b') (sqD b b') s w := by
  refine ⟨k3.low,?_⟩
  have p1 := f1.low.pos
  have p2 := f2.low.pos
  have p3 := f3.low.pos
  have p4 := f4.low.pos
  have p5 := g1.low.pos
  have p6 := g2.low.pos
  have p7 := k1.low.pos
  have p8 := k2.low.pos
  have q1 := diff_eq (by omega) (by omega) f1.eq f3.eq g1.eq
  have q2 := diff_eq (by omega) (by omega) f2.eq f4.eq g2.eq
  have q3 := sq_eq (by omega) q1 k1.eq
  have q4 := sq_eq (by omega) q2 k2.eq
  exact sum_eq (by omega) (by omega) q3 q4 k3.eq
structure Plc (H : Hp) (p : Addr) (t b n : Int) : Prop where
  at_ : H p = some (.tup [.int t,.int b])
  low : Low t b
  lo : 0 ≤ t
  hi : t ≤ n * b
  bt : bits t ≤ 120
  bb : bits b ≤ 120
theorem Plc.mono {H H' : Hp} {p : Addr} {t b n : Int} (f : Plc H p t b n) (s : Same H H') : Plc H' p t b n := ⟨s _ _ f.at_,f.low,f.lo,f.hi,f.bt,f.bb⟩
theorem Plc.th {H : Hp} {p : Addr} {t b n : Int} (f : Plc H p t b n) : Thing H (.ref p) := th_tup f.at_ fun v hv => by
  simp only [List.mem_cons,List.not_mem_nil,or_false] at hv
  rcases hv with rfl | rfl <;> exact ⟨_,.int _⟩
theorem Plc.place {H : Hp} {p : Addr} {t b n : Int} (f : Plc H p t b n) : placeV n H (.ref p) = true := placeV_of f.at_ f.low f.lo f.hi
theorem placeV_same {n : Int} {H H' : Hp} {x : V} {k : String} (kn : Kn H x k) (s : Same H H') : placeV n H' x = placeV n H x := by
  cases kn with
  | non => rfl
  | bl b => rfl
  | int i => rfl
  | str x => rfl
  | lst e => simp only [placeV,e,s _ _ e]
  | tup e => simp only [placeV,e,s _ _ e]
  | dict e => simp only [placeV,e,s _ _ e]
theorem Thing.mono {H H' : Hp} {x : V} (h : Thing H x) (s : Same H H') : Thing H' x := by
  obtain ⟨⟨t,k⟩,pt⟩ := h
  refine ⟨⟨t,k.mono s⟩,fun p xs e1 e2 y hy => ?_⟩
  subst e1
  have e3 : H p = some (.tup xs) := by
    cases k with
    | lst e => rw [s _ _ e] at e2; cases e2
    | tup e => rw [s _ _ e] at e2; cases e2; exact e
    | dict e => rw [s _ _ e] at e2; cases e2
  obtain ⟨t',k'⟩ := pt p xs rfl e3 y hy
  exact ⟨t',k'.mono s⟩
abbrev Crn := List (Addr × Int × Int)
def sqF (qs : Crn) (t b : Int) (qs' : Crn) (t' b' : Int) : Int := sqN (ptX qs t b) (ptY qs t b) b (ptX qs' t' b') (ptY qs' t' b') b'
def lst_ (qs : Crn) : Int := (qs.length : Int) - 1
def spSquare (C : Addr) : Sp := fun vs H Q E => ∃ (l l' : Addr) (qs qs' : Crn) (x y : V),vs = [.ref l,x,.ref l',y] ∧ LineAt H l qs ∧ LineAt H l' qs' ∧ (1 ≤ qs.length ∧ qs.length ≤ 20) ∧ (1 ≤ qs'.length ∧ qs'.length ≤ 20) ∧ Thing H x ∧ Thing H y ∧
  ((placeV (lst_ qs) H x = false ∧ E (.ref C) none H) ∨
   (∃ (p : Addr) (t b : Int),x = .ref p ∧ Plc H p t b (lst_ qs) ∧
     ((placeV (lst_ qs') H y = false ∧ ∀ H',Same H H' → E (.ref C) none H') ∨
      (∃ (q : Addr) (t' b' : Int),y = .ref q ∧ Plc H q t' b' (lst_ qs') ∧
        ∀ (r : Addr) (s w : Int) (H' : Hp),Frac (sqF qs t b qs' t' b') (sqD b b') s w → Fr2 H' r s w 1463 → Same H H' → Q (.ref r) H'))))
def spLPt : Sp := fun vs H Q _ => ∃ (l p : Addr) (qs : Crn) (t b : Int),vs = [.ref l,.ref p] ∧ LineAt H l qs ∧ (1 ≤ qs.length ∧ qs.length ≤ 20) ∧ Plc H p t b (lst_ qs) ∧
  ∀ (r : Addr) (H' : Hp),H' r = some (.tup [.int (ptX qs t b),.int (ptY qs t b),.int b]) → Same H H' → Q (.ref r) H'
theorem crn_bits {H : Hp} {l : Addr} {qs : Crn} (L : LineAt H l qs) (j : Nat) : bits (qs.getD j (0,0,0)).2.1 ≤ 50 ∧ bits (qs.getD j (0,0,0)).2.2 ≤ 50 := by
  rw [List.getD_eq_getElem?_getD]
  by_cases h : j < qs.length
  · rw [List.getElem?_eq_getElem h]
    exact (L.crn _ (List.getElem_mem h)).2
  · rw [List.getElem?_eq_none (by omega)]
    exact ⟨by decide,by decide⟩
theorem num_bits {x y t b : Int} (hb : 0 < b) (bx : bits x ≤ 50) (by' : bits y ≤ 50) (bb : bits b ≤ 120) : bits (numAt x y t b) ≤ 182 := by
  have br : bits (t % b) ≤ 120 := bits_range (Int.emod_nonneg _ (by omega)) (Int.le_of_lt (Int.emod_lt_of_pos _ hb)) bb
  exact bits_le (bits_add (n := 171) (bits_le (bits_mul bx bb) (by decide)) (bits_mul (bits_sub by' bx) br)) (by decide)
theorem pt_bits {H : Hp} {l : Addr} {qs : Crn} {t b : Int} (L : LineAt H l qs) (hb : 0 < b) (bb : bits b ≤ 120) : bits (ptX qs t b) ≤ 182 ∧ bits (ptY qs t b) ≤ 182 :=
  ⟨num_bits hb (crn_bits L _).1 (crn_bits L _).1 bb,num_bits hb (crn_bits L _).2 (crn_bits L _).2 bb⟩
end Sp3
namespace PySem
open Sem (wp)
abbrev Lk {α : Type} (M : Model) (h : Heap) (t : Sem α) (r : α) : Prop := ∀ (A : Around) (Q : α → Shared → Prop) (E : Value → Shared → Prop) (g : Array GenState) (d : Drawn) (tk : Nat) (os : OsState),Q r ⟨h,g,d,tk,os⟩ → wpAny M A t Q E ⟨h,g,d,tk,os⟩
section
variable {prog : Program} {w : World} {A : Around} {E : Value → Shared → Prop} {h : Heap} {g : Array GenState} {d : Drawn} {t : Nat} {os : OsState} {a : Addr} {o : Obj}
  {nm q : Str} {C N : Addr} {bs bm : List Value} {hdct : Bool} {sn : List Str} {sub : List Value} {ab : Bool} {col : Option Bool} {dd : Option Addr} {k0 k1 k2 k3 k5 : Option Value} {newId : String}
theorem class_get_exc {R : Result → Shared → Prop} (atC : h.get? C = some (excClassObj nm q C N bs bm hdct sn sub ab col dd k0 k1 k2 k3 k5 newId)) (hO : bm.contains (.type "object") = true)
    (atE : h.get? a = some o) (clE : o.cls = .ref C) (fin : R (.ok (.ret (.ref C))) ⟨h,g,d,t,os⟩) :
    codeAny (model prog w) A (.call (.builtin "getset_descriptor.__get__") ⟨[.builtin "object.__class__",.ref a,.ref C],[]⟩) R ⟨h,g,d,t,os⟩ := by
  have tg : (⟨h,g,d,t,os⟩ : Shared).TypeIs (.builtin "object.__class__") "getset_descriptor" := F.typeOf_object_class
  have e0 : (".".intercalate ("object.__class__".cutAt '.').dropLast) = "object" := by
    have e0 : "object.__class__".cutAt '.' = ["object","__class__"] := by first | rfl | decide +kernel
    rw [e0]; decide +kernel
  have cont : (Value.ref C :: bm).contains (.type (".".intercalate ("object.__class__".cutAt '.').dropLast)) = true := by
    rw [e0,List.contains_cons,hO,Bool.or_true]
  refine codeAny_call_builtin F.slot_gs_get.plain F.entry_gs_get (F.slot_gs_get.check _ _ _ _ _ _ _ _ tg (F.args_gs_get _ _ _) ?_)
  repeat (any_goals (first | assumption | (with_reducible refine wpAny_loadPart_at atE ?_; rw [clE]) | (with_reducible refine wpAny_isSubtype_exc atC ?_; rw [cont]) | wp_step))
  refine ⟨Code.quiet_builtin _ (by decide +kernel),codeAny_builtin F.entry_object_class ?_⟩
  repeat (any_goals (first | assumption | (with_reducible refine wpAny_loadPart_at atE ?_; rw [clE]) | wp_step))
theorem check_ga_exc {M : Model} {nameV : Value} {Q : Unit → Shared → Prop} (atC : h.get? C = some (excClassObj nm q C N bs bm hdct sn sub ab col dd k0 k1 k2 k3 k5 newId)) (hB : bm.contains (.type "BaseException") = true)
    (atE : h.get? a = some o) (clE : o.cls = .ref C) (fin : Q () ⟨h,g,d,t,os⟩) : wpAny M A (checkBuiltinCall "BaseException.__getattribute__" ⟨[.ref a,nameV],[]⟩) Q E ⟨h,g,d,t,os⟩ := by
  have kd : builtinKind "BaseException.__getattribute__" = some .slot := by decide +kernel
  have spl : splitId "BaseException.__getattribute__" = some ("BaseException","__getattribute__") := by decide +kernel
  have cont : (Value.ref C :: bm).contains (.type "BaseException") = true := by rw [List.contains_cons,hB,Bool.or_true]
  have okA := F.args_bexc_ga (.ref a) nameV
  simp only [checkBuiltinCall,kd,spl]
  refine wpAny_bind ?_
  · unfold isInstance
    repeat (first | (with_reducible refine wpAny_loadPart_at atE ?_; rw [clE]) | (with_reducible refine wpAny_isSubtype_exc atC ?_; rw [cont]) | wp_step)
    exact fin
theorem class_entry_exc {tk : Tok} {Q : Fin → Shared → Prop} (atC : h.get? C = some (excClassObj nm q C N bs bm hdct sn sub ab col dd k0 k1 k2 k3 k5 newId)) (hO : bm.contains (.type "object") = true)
    (lc : Lk (model prog w) h (typeLookup (.ref C) "__class__") (some (.builtin "object.__class__"))) (atE : h.get? a = some o) (clE : o.cls = .ref C) (fin : Q (.done (.ret (.ref C))) ⟨h,g,d,t,os⟩) :
    wpAny (model prog w) A (Builtin.«object.__getattribute__» ⟨[.ref a,.str "__class__" tk],[]⟩) Q E ⟨h,g,d,t,os⟩ := by
  have tg : (⟨h,g,d,t,os⟩ : Shared).TypeIs (.builtin "object.__class__") "getset_descriptor" := F.typeOf_object_class
  have tyC := F.typeOf_object_class
  have getL := F.slot_gs_get.lookup
  have setL := F.slot_gs_set.lookup
  repeat (any_goals (first | assumption | (with_reducible refine wpAny_loadPart_at atE ?_; rw [clE]) | with_reducible refine lc _ _ _ _ _ _ _ ?_ | wp_step))
  refine class_get_exc atC hO atE clE ?_
  repeat (any_goals (first | assumption | wp_step))
theorem class_by_exc {tk : Tok} {Q : Value → Shared → Prop} (atC : h.get? C = some (excClassObj nm q C N bs bm hdct sn sub ab col dd k0 k1 k2 k3 k5 newId)) (hO : bm.contains (.type "object") = true) (hB : bm.contains (.type "BaseException") = true)
    (lc : Lk (model prog w) h (typeLookup (.ref C) "__class__") (some (.builtin "object.__class__"))) (lg : Lk (model prog w) h (typeLookup (.ref C) "__getattribute__") (some (.builtin "BaseException.__getattribute__"))) (ln : Lk (model prog w) h (typeLookup (.ref C) "__getattr__") none)
    (atE : h.get? a = some o) (clE : o.cls = .ref C) (fin : Q (.ref C) ⟨h,g,d,t,os⟩) :
    wpAny (model prog w) A (getAttrBy (.ref a) (.str "__class__" tk) false) Q E ⟨h,g,d,t,os⟩ := by
  have bnd := F.excAttr_ValueError.ga.bind (.ref a)
  have nh2 : (Value.builtin "BaseException.__getattribute__" == Value.builtin "object.__getattribute__") = false := by decide +kernel
  have nh1 : (onTheHeap (Value.ref C) && Value.builtin "BaseException.__getattribute__" == Value.builtin "object.__getattribute__") = false := by rw [nh2]; rfl
  repeat (any_goals (first | assumption | (with_reducible refine wpAny_loadPart_at atE ?_; rw [clE]) | with_reducible refine lg _ _ _ _ _ _ _ ?_ | with_reducible refine ln _ _ _ _ _ _ _ ?_ | wp_step))
  refine codeAny_call_builtin F.excAttr_ValueError.ga.plain F.entry_bexc_ga (check_ga_exc atC hB atE clE (class_entry_exc atC hO lc atE clE ?_))
  repeat (any_goals (first | assumption | wp_step))
theorem class_attr_exc {Q : Option Value → Shared → Prop} (atC : h.get? C = some (excClassObj nm q C N bs bm hdct sn sub ab col dd k0 k1 k2 k3 k5 newId)) (hO : bm.contains (.type "object") = true) (hB : bm.contains (.type "BaseException") = true)
    (lc : Lk (model prog w) h (typeLookup (.ref C) "__class__") (some (.builtin "object.__class__"))) (lg : Lk (model prog w) h (typeLookup (.ref C) "__getattribute__") (some (.builtin "BaseException.__getattribute__"))) (ln : Lk (model prog w) h (typeLookup (.ref C) "__getattr__") none)
    (atE : h.get? a = some o) (clE : o.cls = .ref C) (fin : Q (some (.ref C)) ⟨h,g,d,t + 1,os⟩) :
    wpAny (model prog w) A (getAttr? (.ref a) "__class__") Q E ⟨h,g,d,t,os⟩ := by
  unfold getAttr?
  repeat (any_goals (first | assumption | with_reducible refine class_by_exc atC hO hB lc lg ln atE clE ?_ | wp_step))
end
end PySem
namespace L2
open PySem PySem.Spec PyProof.Rows
def excO (C a : Addr) : HO := .ext fun h => ∃ o,h.get? a = some o ∧ o.cls = .ref C
theorem excO_ok {P : Program} {w : World} {H : Hp} {h : Heap} {a C : Addr} (e : ∃ o,h.get? a = some o ∧ o.cls = .ref C) : ObjOk P w H h a (excO C a) :=
  ⟨e,let ⟨o,e1,_⟩ := e; ⟨o,e1⟩,fun _ _ ⟨o,e1,e2⟩ k => ⟨o,k o e1,e2⟩⟩
structure ExcF (K : PySem.W.Frag) (C : Addr) : Prop where
  ga : PySem.W.findIn K (.ref C) "__getattribute__" = some (some (.builtin "BaseException.__getattribute__"))
  gn : PySem.W.findIn K (.ref C) "__getattr__" = some none
  cl : PySem.W.findIn K (.ref C) "__class__" = some (some (.builtin "object.__class__"))
theorem lk_of {K : PySem.W.Frag} {M : Model} {h : Heap} {C : Addr} {n : Str} {r : Option Value} (X : K.In h) (e : PySem.W.findIn K (.ref C) n = some r) : Lk M h (typeLookup (.ref C) n) r :=
  fun _ _ _ _ _ _ _ q => (PySem.W.looks_findIn X e).here q
theorem kitx_exc {K : PySem.W.Frag} {mg : Str → Option Value} {n : Str} {C a : Addr} (O : ExcC K mg n C) (f : ExcF K C) : PySem.W.KitX K (.ref a) (.ref C) (fun h => ∃ o,h.get? a = some o ∧ o.cls = .ref C) where
  ty := fun M h _ p => by
    obtain ⟨o,e1,e2⟩ := p
    exact e2 ▸ (PySem.W.Looks.ld e1).andThen .now
  it := fun M h X _ => by
    obtain ⟨bm,N',nm,qn,bs,hd,sn,sub,ab,col,dd,k0,k1,k2,k3,k5,mN,atC,_⟩ := O.obj h X
    intro A' Q' E' s' k q
    unfold isType loadHead
    exact wpAny_bind (wpAny_loadPart (k _ _ atC) (wpAny_pure q))
  ne := fun h tp dd' its n' sl X htp => by
    obtain ⟨bm,N',nm,qn,bs,hd,sn,sub,ab,col,dd,k0,k1,k2,k3,k5,mN,atC,_⟩ := O.obj h X
    refine Bool.eq_false_iff.mpr fun q => ?_
    cases Value.ref.inj (beq_iff_eq.mp q)
    rw [atC] at htp
    have z := congrArg Obj.cls (Option.some.inj htp)
    exact absurd (Value.type.inj z) (by decide)
  ca := fun {prog w A E Q s} X p k => by
    obtain ⟨h,g,d,t,os⟩ := s
    obtain ⟨o,e1,e2⟩ := p
    obtain ⟨bm,N',nm,qn,bs,hd,sn,sub,ab,col,dd,k0,k1,k2,k3,k5,mN,atC,_,_,T⟩ := O.obj h X
    exact class_attr_exc atC (T.hasType (by decide +kernel)) (T.hasType (by decide +kernel)) (lk_of X f.cl) (lk_of X f.ga) (lk_of X f.gn) e1 e2 k
section
variable {X : Cx}
def rIsE (K : PySem.W.Frag) (C : Addr) : List V → Hp → VK → Prop := fun xs H Q => ∃ (a : Addr) (v : V) (b : Bool),xs = [.ref a,v] ∧ H a = some (excO C a) ∧
  ((∃ D,v = .ref D ∧ PySem.W.kitOne K (.ref C) (.ref D) = some b) ∨ (∃ T,v = .ty T ∧ PySem.W.kitOne K (.ref C) (.type T) = some b) ∨ (∃ (p : Addr) (ds : List Addr),v = .ref p ∧ H p = some (.tup (ds.map V.ref)) ∧ PySem.W.kitAny K (.ref C) (ds.map Value.ref) = some b)) ∧ Q (.bl b) H
theorem vals_refs : ∀ {ds : List Addr} {us : List Value},Vals (ds.map V.ref) us → us = ds.map Value.ref
  | [],us,r => by cases r; rfl
  | d :: ds,us,r => by
    cases r with
    | cons h t =>
      rw [vals_refs t]
      cases h
      rfl
theorem call_isexc {n : Str} {C : Addr} (O : ExcC X.K X.mg n C) (f : ExcF X.K C) : CallR X (.builtin "isinstance") (rIsE X.K C) := by
  intro pins s σ H xs us Q I rs h
  obtain ⟨a,v,b,rfl,ea,hv,q⟩ := h
  obtain ⟨u,u',rfl,ru,rv⟩ := vals2 rs
  cases ru
  have p : ∃ o,s.heap.get? a = some o ∧ o.cls = .ref C := (show ObjOk X.prog X.w H s.heap a (excO C a) from I.hok a _ ea).1
  rcases hv with ⟨D,rfl,e⟩ | ⟨T,rfl,e⟩ | ⟨p',ds,rfl,et,e⟩
  · cases rv
    exact PySem.W.kia_one (kitx_exc O f) I.kIn p e (by intro z; cases z) fun tk => ⟨.bl _,H,I.tok _,rfl,q⟩
  · cases (show u' = Value.type T from rv)
    exact PySem.W.kia_one (kitx_exc O f) I.kIn p e (by intro z; cases z) fun tk => ⟨.bl _,H,I.tok _,rfl,q⟩
  · cases rv
    obtain ⟨_,its,rv',⟨oc,odi,oda,osl⟩,eo,ec,nn,ed⟩ := I.hok _ _ et
    dsimp only at ec ed
    subst ec ed
    cases vals_refs rv'
    exact PySem.W.kia_tup (kitx_exc O f) I.kIn p eo e (by intro z; cases z) fun tk => ⟨.bl _,H,I.tok _,rfl,q⟩
end
section
variable {X : Cx} {pins : List (Addr × Obj)} {σ : St} {H : Hp} {s : Shared}
theorem Inv.track {a : Addr} {o : HO} (I : Inv X pins σ H s) (hn : H a = none) (h0 : X.s₀.heap.get? a = none) (hl : a ≠ X.env.locals) (hc : ∀ x c,X.env.cells.lookup x = some c → c ≠ a) (hp : ∀ p ∈ X.pn ++ pins,p.1 ≠ a)
    (ho : ObjOk X.prog X.w (upd H a o) s.heap a o) : Inv X pins σ (upd H a o) s where
  ok := I.ok
  os := I.os
  bare := I.bare
  base := {
    keep := I.base.keep
    slot := I.base.slot
    free := fun b ob e n hx => by
      rw [upd_ne (fun z => by subst z; rw [h0] at e; cases e)]
      exact I.base.free b ob e n hx
    there := I.base.there
    tups := fun b xs q => by
      have z := I.base.tups b xs q
      rw [upd_ne (ne_of_none z hn)]
      exact z
    frzs := fun b ob u q => by
      have z := I.base.frzs b ob u q
      rw [upd_ne (ne_of_none z hn)]
      exact z
    tbls := fun b ps q => by
      obtain ⟨m,z⟩ := I.base.tbls b ps q
      exact ⟨m,by rw [upd_ne (ne_of_none z hn)]; exact z⟩ }
  loc := I.loc
  cell := I.cell
  free := by rw [upd_ne (Ne.symm hl)]; exact I.free
  freeC := fun x c e => by rw [upd_ne (hc x c e)]; exact I.freeC x c e
  pin := fun p m => by
    obtain ⟨p1,p2,p3⟩ := I.pin p m
    exact ⟨p1,by rw [upd_ne (hp p m)]; exact p2,p3⟩
  hok := fun b u q => by
    by_cases hb : b = a
    · subst hb
      rw [upd_same] at q
      cases q
      exact ho
    · rw [upd_ne hb] at q
      exact (I.hok b u q).stay (fun _ _ _ r => r) (fun c r => by rw [upd_ne (ne_of_none r hn)]; exact r) fun c xs r => by rw [upd_ne (ne_of_none r hn)]; exact r
  len := I.len
theorem goes_ok {M : Model} {A : Around} {E : Value → Shared → Prop} {i : Nat} {x : Str} {pos : Pos} {Q : Unit → Shared → Prop} (I : Inv X pins σ H s) (hN : X.N.Nodup) (hi : X.N[i]? = some x) (hk : X.env.kindOf x = some .local)
    (h : ∀ s',Inv X pins (σ.set i none) H s' → Q () s') : wpAny M A (do bindName X.env x .none; unbindBehindTheSuite X.env x pos) Q E s := by
  obtain ⟨m,hn,hl⟩ := id I.loc
  have plain : (X.env.scope.kind == .class || (X.env.scope.kind == .module && X.env.locals != X.env.globals)) = false := by rw [I.ok.kind]; rfl
  have iσ : i < σ.length := by rw [I.len]; exact (List.getElem?_eq_some_iff.mp hi).1
  have cne := I.cne
  refine wpAny_nameGoes_keeps hk hn plain (fun h' v hn' sb => ?_)
  have far : ∀ {b : Addr} {o : Obj},X.s₀.heap.get? b = some o → b ≠ X.env.locals := fun e => Nat.ne_of_lt (Nat.lt_of_lt_of_le (Heap.lt_size e) I.ok.above)
  refine h _ ⟨I.ok,I.os,I.bare,⟨fun b o e n hb hx => (sb.2 b (far e)).trans (I.base.keep b o e n hb hx),fun b o e n hb hx => ?_,I.base.free,fun b o e hx => ?_,I.base.tups,I.base.frzs,I.base.tbls⟩,⟨_,hn',fun j y v' e1 e2 e3 => ?_⟩,fun y c e => ?_,I.free,I.freeC,fun p hp => ?_,fun b ob e => ?_,by simpa using I.len⟩
  · obtain ⟨sl,z⟩ := I.base.slot b o e n hb hx
    exact ⟨sl,(sb.2 b (far e)).trans z⟩
  · obtain ⟨o',z⟩ := I.base.there b o e hx
    exact ⟨o',(sb.2 b (far e)).trans z⟩
  · by_cases hj : j = i
    · subst hj
      rw [List.getElem?_set_self iσ] at e2
      cases e2
    · rw [List.getElem?_set_ne (Ne.symm hj)] at e2
      obtain ⟨u',r',q⟩ := hl j y v' e1 e2 e3
      refine ⟨u',r',?_⟩
      rcases q with ⟨k,e⟩ | ⟨k,c,e,z⟩
      · have ny : y ≠ x := fun e => hj (nodup_ix hN e1 (e ▸ hi))
        exact .inl ⟨k,by simp [ny,e]⟩
      · exact .inr ⟨k,c,e,z.sameBut sb (cne y c e)⟩
  · obtain ⟨w',z⟩ := I.cell y c e
    exact ⟨w',z.sameBut sb (cne y c e)⟩
  · obtain ⟨e,n,ne,nf,d⟩ := I.pin p hp
    exact ⟨(sb.2 p.1 ne).trans e,n,ne,nf,d⟩
  · refine (I.hok b ob e).stay (fun c w' hc q => (sb.2 c ?_).trans q) (fun _ q => q) fun _ _ q => q
    rintro rfl
    rcases hc with rfl | hc
    · rw [I.free] at e
      cases e
    · rw [I.free] at hc
      cases hc
end
def Ends.drop (D : Ends) (i : Nat) : Ends := { nx := fun σ H => D.nx (σ.set i none) H,rt := D.rt,bk := fun σ H => D.bk (σ.set i none) H,ct := fun σ H => D.ct (σ.set i none) H }
section
variable {X : Cx}
theorem caught_as {pins : List (Addr × Obj)} {σ : St} {H : Hp} {s s' : Shared} {E1 : XK} {ev : Value} {x en : Str} {B C : Addr} {np pos : Pos} {b₀ : Stmt} {suite : List Stmt} {rest : List ExceptHandler} {D : Ends} {th : TS} {Ex : Value → Shared → Prop} {i : Nat}
    (I : Inv X pins σ H s) (stk : X.stack = X.env :: X.outer) (hf : X.env.frame = some X.env.locals) (O : ExcC X.K X.mg x B) (hg : Gl X x) (hm : PySem.W.exmOne X.K (.ref C) (.ref B) = some true) (hex : X.ex = []) (hN : X.N.Nodup) (hi : X.N[i]? = some en) (hk : X.env.kindOf en = some .local) (h : CXE X.prog X.w X.stack H s E1 ev s')
    (hE : ∀ c o H',E1 c o H' → c = .ref C ∧ ∀ e : Addr,H' e = none → th (D.drop i) (σ.set i (some (.ref e))) (upd H' e (excO C e))) (hb : ∀ e : Addr,PSs (X.inH e) (b₀ :: suite) th) (hdb : (x == ("__debug__" : Str)) = false := by decide) :
    wpAny (model X.prog X.w) X.A (noteFrame ev X.env) (fun _ s₂ => wpAny (model X.prog X.w) X.A (setFlight ev none) (fun _ s₃ =>
      wpAny (model X.prog X.w) X.A (handleBy ev X.env (.ExceptHandler (some (.Name x np)) (some en) (b₀ :: suite) pos :: rest)) (SP X pins D) Ex s₃) Ex s₂) Ex s' := by
  obtain ⟨ea,t,cls,H',B',rfl,os,bare,un,hok,fl,big,q⟩ := h
  obtain ⟨rfl,rd⟩ := hE _ _ _ q
  have hfr := I.ok.frames
  rw [stk] at hfr
  have fr : ∀ b ∈ frs X.stack,H b = none ∧ ∀ o,s'.heap.get? b = some o → ∀ vs,o.data ≠ .fields vs := fun b hb => ⟨I.stkFree b hb,fun o eo => by
    obtain ⟨_,o',eo',nf⟩ := fl.2.2.1.mem hb
    rw [eo] at eo'
    cases eo'
    exact nf⟩
  have J : ∀ h2 : Heap,B'.StaysIn h2 → s'.heap.UpToSlots h2 → Inv X pins σ H' { s' with heap := h2 } := fun h2 st2 sl =>
    I.call' (s' := { s' with heap := h2 }) (ch := []) os (Un.fly un big fl.1 st2 sl fr) (HOk.fly hok big fl.1 st2) bare fun b z => absurd z (by simp)
  have hn : H' ea = none := by
    cases hz : H' ea with
    | none => rfl
    | some o =>
      obtain ⟨ob,e⟩ := big.tr ea o hz
      rw [fl.2.1] at e
      cases e
  have new : ∀ b o,s.heap.get? b = some o → b ≠ ea := fun b o e z => by
    subst z
    by_cases hb : b ∈ frs X.stack
    · obtain ⟨_,o',eo',nf⟩ := fl.2.2.1.mem hb
      obtain ⟨oe',vs,e1,_,e2,_⟩ := fl.first
      rw [eo'] at e1
      cases e1
      exact nf vs e2
    · obtain ⟨ob,e1⟩ := big.old b o e hb
      rw [fl.2.1] at e1
      cases e1
  have fl0 := fl
  rw [stk] at fl0
  refine wpAny_looks_onW (L := X.env.locals) hfr hf fl0 fun h4 hheld up4 => ?_
  refine wpAny_landsW hheld fun h5 fl5 up5 => ?_
  have up45 := up4.trans up5
  have I5 := (J h5 fl5.1 up45).inH ea
  obtain ⟨oe,he,hc⟩ := fl5.there
  refine wpAny_handleBy_cons (codeAny_handlers_test (ld_glob I5 hg O.bound ?_ hdb)) (by intro z; cases z)
  have LT : PySem.W.Looks (model X.prog X.w) h5 (typeOf (.ref ea)) (.ref C) := hc ▸ (PySem.W.Looks.ld he).andThen .now
  refine (PySem.W.exm_one I5.kIn LT hm).here (codeAny_handlers_suite_as ?_)
  refine lands_againW fl5 fun h6 fl6 up6 => ?_
  have I6 := (J h6 fl6.1 (up45.trans up6)).inH ea
  have I7 := I6.track (a := ea) (o := excO C ea) hn (by
    cases hz : X.s₀.heap.get? ea with
    | none => rfl
    | some o =>
      obtain ⟨o',e⟩ := I.base.there ea o hz (by rw [hex]; exact List.not_mem_nil)
      exact absurd rfl (new ea o' e)) (fun z => by
    obtain ⟨m,⟨o',_,_,e,_⟩,_⟩ := I.loc
    exact new _ o' e z.symm) (fun y c e z => by
    obtain ⟨v,o',e',_⟩ := I.cell y c e
    exact new _ o' e' z) (fun p hp z => new _ _ (I.pin p hp).1 z) (excO_ok fl6.there)
  refine store_ok (X := X.inH ea) I7 hN hi (.inl hk) (show RelV (.ref ea) (.ref ea) from rfl) (fun s8 I8 => ?_) (.inr hk)
  refine wpAny_mono (hb ea pins _ _ _ (D.drop i) I8 (rd ea hn)) (fun f s9 z => ?_) fun _ _ z => False.elim z
  cases f with
  | next =>
    obtain ⟨σ',H2,I9,q9⟩ := z
    exact goes_ok (I9.outH I.ok) hN hi hk fun s10 I10 => ⟨_,_,I10,q9⟩
  | brk =>
    obtain ⟨σ',H2,I9,q9⟩ := z
    exact goes_ok (I9.outH I.ok) hN hi hk fun s10 I10 => ⟨_,_,I10,q9⟩
  | cont =>
    obtain ⟨σ',H2,I9,q9⟩ := z
    exact goes_ok (I9.outH I.ok) hN hi hk fun s10 I10 => ⟨_,_,I10,q9⟩
  | ret u =>
    obtain ⟨v,σ',H2,I9,r,q9⟩ := z
    exact goes_ok (I9.outH I.ok) hN hi hk fun s10 I10 => ⟨v,_,_,I10,r,q9⟩
end
end L2
namespace Sp8
open PySem PySem.Spec L2 Mth Sp1 Sp2 Sp3
end Sp8
namespace L2
open PySem PySem.Spec PyProof.Rows
theorem bt_ValueError : bootBuiltins "ValueError" = some (.type "ValueError") := by decide +kernel
theorem SqT.mod {K : PySem.W.Frag} {H : Hp} {a : Addr} {oc : Value} {od : Option Addr} {its : Array Value} {n : Nat} {sl : Array (Option Value)} {xs : List V} (hk : K.lookup a = some ⟨oc,od,.seq its n,sl⟩) (hc : oc = .type "tuple") (hz : its.size ≤ 100) (r : Vals xs its.toList) : SqT K H a xs :=
  .inr ⟨_,its,n,hk,hc,rfl,Nat.le_of_lt (small1000 (by omega)),r⟩
end L2
namespace Sp24
open PySem PySem.Spec L2 Mth Sp1 Sp2 Sp3 Sp8
end Sp24
namespace L2
open PySem PySem.Spec PyProof.Rows
theorem bt_all : bootBuiltins "all" = some (.builtin "all") := by decide +kernel
theorem bl_at {bs : List Bool} {us : List Value} {i : Nat} {v : Value} (r : Vals (bs.map V.bl) us) (h : us[i]? = some v) : ∃ b,bs[i]? = some b ∧ v = .bool b := by
  have hl := r.length
  rw [List.length_map] at hl
  have hi : i < us.length := (List.getElem?_eq_some_iff.mp h).1
  have hj : i < bs.length := by omega
  obtain ⟨u,e,q⟩ := r.get (i := i) (x := .bl bs[i]) (by rw [List.getElem?_map,List.getElem?_eq_getElem hj]; rfl)
  rw [h] at e
  cases e
  exact ⟨bs[i],List.getElem?_eq_getElem hj,q⟩
theorem all_range (bs : List Bool) : ((List.range bs.length).all fun i => (bs[i]?).getD true) = bs.all id := by
  rw [Bool.eq_iff_iff]
  simp only [List.all_eq_true,List.mem_range,id]
  constructor
  · intro h b hb
    obtain ⟨i,hi,rfl⟩ := List.mem_iff_getElem.mp hb
    have z := h i hi
    rw [List.getElem?_eq_getElem hi] at z
    exact z
  · intro h i hi
    rw [List.getElem?_eq_getElem hi]
    exact h _ (List.getElem_mem hi)
theorem call_all {X : Cx} (hc : X.calm = true) : CallR X (.builtin "all") (fun xs H Q => ∃ (p : Addr) (bs : List Bool),xs = [.ref p] ∧ SqL X.K H p (bs.map V.bl) ∧ Q (.bl (bs.all id)) H) := by
  intro pins s σ H xs us Q I r h
  obtain ⟨p,bs,rfl,hq,q⟩ := h
  obtain ⟨u,rfl,rx⟩ := vals1 r
  cases rx
  obtain ⟨its,rv,pl,_⟩ := I.list hq
  have hl := pl.isList
  have lt : p < s.heap.objs.size := by
    obtain ⟨_,e,_⟩ := hl
    exact Heap.lt_size e
  refine call_all_walk (wpAny_pyIter_list hl ?_)
  refine ⟨s.heap.objs.size,[s.heap.objs.size,p],[s.heap.objs.size],its.toArray.size,_,_,fun i => (bs[i]?).getD true,rfl,Walks.list (A := X.A.in1) (I.ok.hd hc) _ p (Nat.ne_of_lt lt) its.toArray,?_⟩
  refine ⟨⟨⟨_,Heap.get?_push_size _ rfl,rfl,rfl⟩,hl.push _⟩,fun i v s' Q' E' hP hQ => ?_,fun h' tk hk => ?_⟩
  · obtain ⟨b,e,rfl⟩ := bl_at rv (by simpa using hP)
    simp only [e,Option.getD_some] at hQ
    exact wpAny_truthy_bool hQ
  · have el : its.toArray.size = bs.length := by
      have := rv.length
      rw [List.length_map] at this
      rw [List.size_toArray]
      omega
    rw [el,all_range]
    refine ⟨.bl _,H,I.kept (t' := tk) fun b o e => ?_,rfl,q⟩
    exact hk b o (fun hm => by rw [List.mem_singleton.mp hm] at e; exact Nat.lt_irrefl _ (Heap.lt_size e)) (Heap.get?_push_of_some _ e)
end L2
namespace Sp7
open PySem PySem.Spec L2 Mth Sp1 Sp2 Sp3
def larg : Int := 999999999999
def smallV : V → Bool
  | .int a => decide (-larg ≤ a) && decide (a ≤ larg)
  | _ => false
def cornL : List V → Bool
  | [y,z] => smallV y && smallV z
  | _ => false
def cornV (H : Hp) : V → Bool
  | .ref p => match H p with
    | some (.tup xs) => cornL xs
    | _ => false
  | _ => false
def lineL (H : Hp) (xs : List V) : Bool := (decide ((1 : Int) ≤ (xs.length : Int)) && decide ((xs.length : Int) ≤ 10)) && xs.all (cornV H)
def lineV (H : Hp) : V → Bool
  | .ref p => match H p with
    | some (.lst xs) => lineL H xs
    | _ => false
  | _ => false
theorem cornV_tup {H : Hp} {p : Addr} {xs : List V} (e : H p = some (.tup xs)) : cornV H (.ref p) = cornL xs := by simp only [cornV,e]
theorem cornV_same {H H' : Hp} {x : V} {k : String} (kn : Kn H x k) (s : Same H H') : cornV H' x = cornV H x := by
  cases kn with
  | non => rfl
  | bl b => rfl
  | int i => rfl
  | str x => rfl
  | lst e => simp only [cornV,e,s _ _ e]
  | tup e => simp only [cornV,e,s _ _ e]
  | dict e => simp only [cornV,e,s _ _ e]
theorem cornL_len {xs : List V} (h : xs.length ≠ 2) : cornL xs = false := by
  unfold cornL
  split
  · exact absurd rfl h
  · rfl
theorem smallV_no {v : V} (h : ∀ a,v ≠ .int a) : smallV v = false := by
  unfold smallV
  split
  · exact absurd rfl (h _)
  · rfl
theorem lineV_lst {H : Hp} {p : Addr} {xs : List V} (e : H p = some (.lst xs)) : lineV H (.ref p) = lineL H xs := by simp only [lineV,e]
theorem Kn.cases_lst {H : Hp} {y : V} {t : String} (k : Kn H y t) : (∃ p xs,y = .ref p ∧ H p = some (.lst xs) ∧ t = "list") ∨ (lineV H y = false ∧ isSub t "list" = false) := by
  cases k with
  | lst e => exact .inl ⟨_,_,rfl,e,rfl⟩
  | non => exact .inr ⟨rfl,by decide⟩
  | bl b => exact .inr ⟨rfl,by decide⟩
  | str x => exact .inr ⟨rfl,by decide⟩
  | int a => exact .inr ⟨rfl,by decide⟩
  | tup e => exact .inr ⟨by simp only [lineV,e],by decide⟩
  | dict e => exact .inr ⟨by simp only [lineV,e],by decide⟩
theorem Kn.cases_tp {H : Hp} {y : V} {t : String} (k : Kn H y t) : (∃ p xs,y = .ref p ∧ H p = some (.tup xs) ∧ t = "tuple") ∨ (cornV H y = false ∧ isSub t "tuple" = false) := by
  cases k with
  | tup e => exact .inl ⟨_,_,rfl,e,rfl⟩
  | non => exact .inr ⟨rfl,by decide⟩
  | bl b => exact .inr ⟨rfl,by decide⟩
  | str x => exact .inr ⟨rfl,by decide⟩
  | int a => exact .inr ⟨rfl,by decide⟩
  | lst e => exact .inr ⟨by simp only [cornV,e],by decide⟩
  | dict e => exact .inr ⟨by simp only [cornV,e],by decide⟩
def Sm (x : Int) : Prop := -larg ≤ x ∧ x ≤ larg
structure LineM (H : Hp) (l : Addr) (qs : Crn) : Prop where
  lst : H l = some (.lst (qs.map fun q => V.ref q.1))
  crn : ∀ q ∈ qs,H q.1 = some (.tup [.int q.2.1,.int q.2.2]) ∧ Sm q.2.1 ∧ Sm q.2.2
theorem LineM.mono {H H' : Hp} {l : Addr} {qs : Crn} (L : LineM H l qs) (s : Same H H') : LineM H' l qs := ⟨s _ _ L.lst,fun q h => ⟨s _ _ (L.crn q h).1,(L.crn q h).2⟩⟩
def spSmall : Sp := fun vs H Q _ => ∃ x t,vs = [x] ∧ Kn H x t ∧ Q (.bl (smallV x)) H
def spCorner : Sp := fun vs H Q _ => ∃ x,vs = [x] ∧ Thing H x ∧ Q (.bl (cornV H x)) H
def retScope (s : Stmt) : Scope := match s with
  | .Return (some (.Call _ [.ListComp _ _ sc _] _ _)) _ => sc
  | .Return (some (.ListComp _ _ sc _)) _ => sc
  | _ => { kind := .function,names := [],isGenerator := false,isCoroutine := false }
end Sp7
namespace L2
open PySem PySem.Spec PyProof.Rows
theorem bits_add2 {i j : Int} {m n : Nat} (hi : bits i ≤ m) (hj : bits j ≤ n) : bits (i + j) ≤ max m n + 1 := bits_add (bits_le hi (Nat.le_max_left _ _)) (bits_le hj (Nat.le_max_right _ _))
theorem bits_emod {i j : Int} {n : Nat} (hj : 0 < j) (h : bits j ≤ n) : bits (i % j) ≤ n := bits_range (Int.emod_nonneg _ (by omega)) (Int.le_of_lt (Int.emod_lt_of_pos _ hj)) h
theorem dec_t {p : Prop} [Decidable p] (h : decide p = true) : p := of_decide_eq_true h
theorem dec_f {p : Prop} [Decidable p] (h : decide p = false) : ¬ p := of_decide_eq_false h
theorem CM.of {i j : Int} {m n : Nat} (hi : bits i ≤ m) (hj : bits j ≤ n) (h : m ≤ 1000000 ∧ n ≤ 1000000) : CM i j := CM.b hi hj (by have : (2:Nat) ^ 20 = 1048576 := by decide
                                                                                                                                     omega) (by have : (2:Nat) ^ 20 = 1048576 := by decide
                                                                                                                                                omega)
theorem bits_of_le {i : Int} {m n : Nat} (h : bits i ≤ m) (hm : m ≤ n) : bits i ≤ n := Nat.le_trans h hm
end L2
namespace L2
open PySem PySem.Spec PyProof.Rows
def SameT (H H' : Hp) : Prop := ∀ b xs,H b = some (.tup xs) → H' b = some (.tup xs)
theorem Same.t {H H' : Hp} (s : Same H H') : SameT H H' := fun b xs e => s b _ e
theorem SameT.trans {H H1 H2 : Hp} (a : SameT H H1) (b : SameT H1 H2) : SameT H H2 := fun c xs e => b c xs (a c xs e)
theorem SameT.upd {H : Hp} {l : Addr} {xs ys : List V} (hl : H l = some (.lst xs)) : SameT H (upd H l (.lst ys)) := fun b zs e => by
  rw [upd_ne (ne_of e hl (by intro z; cases z))]
  exact e
theorem Same.upd {H0 H : Hp} {l : Addr} {o : HO} (s : Same H0 H) (hl : H0 l = none) : Same H0 (upd H l o) := fun b u e => by
  rw [upd_ne (ne_of_none e hl)]
  exact s b u e
def CompAt (J : It) (fv : List (Str × Nat)) (te : TE) (σ : St) (H1 : Hp) (Q : VK) : Prop := ∀ p,H1 p = none → ∃ W : Nat → Nat → List V → Hp → Prop,(∃ m,W 0 m [] (upd H1 p (.lst []))) ∧ ∀ i m acc H2,W i m acc H2 →
  H2 p = some (.lst acc) ∧ acc.length < sizeLine ∧ ((J.stop i H2 ∧ Q (.ref p) H2) ∨ (J.go i H2 ∧ ∀ x H3,J.yld i H2 x H3 → te (some x :: fvs fv σ) H3 fun y H4 => H4 p = some (.lst acc) ∧ ∃ m',m' < m ∧ W (i + 1) m' (acc ++ [y]) (upd H4 p (.lst (acc ++ [y])))))
def tCompA (wi : TI) (fv : List (Str × Nat)) (te : TE) : TE := fun σ H Q => wi σ H fun J H1 => CompAt J fv te σ H1 Q
section
variable {X : Cx} {scope : Scope} {cl : List (Str × Addr)} {x : Str} {fv : List (Str × Nat)} {elt iter : Expr} {px pos : Pos} {te : TE}
theorem pe_compA {wi : TI} (hcalm : X.calm = true) (C : CompN X scope cl x fv) (hi : PI X (.Name x px) iter wi) (he : ∀ (fp : List Addr) (s₀ : Shared) (H₀ : Hp),PE (X.blk (x :: fv.map (·.1)) scope cl fp s₀ H₀) elt te)
    (hs : ∀ v,foldedSetIterable iter X.env v = pure v := by intro _; rfl) : PE X (.ListComp elt [⟨.Name x px,iter,[],0⟩] scope pos) (tCompA wi fv te) := pe_comp hcalm C hi he hs
theorem ps_setCompA {wi : TI} {y : Str} {j : Nat} {py spos : Pos} (hcalm : X.calm = true) (C : CompN X scope cl x fv) (hN : X.N.Nodup) (hj : X.N[j]? = some y) (hy : X.env.scope.names.lookup y = some .local) (hi : PI X (.Name x px) iter wi) (he : ∀ (fp : List Addr) (s₀ : Shared) (H₀ : Hp),PE (X.blk (x :: fv.map (·.1)) scope cl fp s₀ H₀) elt te)
    (hsw : swapsWith (.ListComp elt [⟨.Name x px,iter,[],0⟩] scope pos) (some (.Name y py)) spos.line X.env = pure true := by rfl)
    (hs : ∀ v,foldedSetIterable iter X.env v = pure v := by intro _; rfl) : PS X (.Assign [.Name y py] (.ListComp elt [⟨.Name x px,iter,[],0⟩] scope pos) spos) (tAsg (tCompA wi fv te) (gName j)) := ps_setComp hcalm C hN hj hy hi he hsw hs
end
theorem comp_R {K : PySem.W.Frag} {a : Addr} {xs : List V} {fv : List (Str × Nat)} {te : TE} {σ : St} {H1 : Hp} {Q : VK} (hL : SqL K H1 a xs) (hlen : xs.length < 1000) (R : Nat → V → Hp → Prop) (hR : ∀ i v H H',SameT H H' → R i v H → R i v H')
    (hs : ∀ i x H2 (Kc : VK),xs[i]? = some x → Same H1 H2 → (∀ y H4,Same H2 H4 → R i y H4 → Kc y H4) → te (some x :: fvs fv σ) H2 Kc)
    (hd : ∀ l ys H',H1 l = none → Same H1 H' → H' l = some (.lst ys) → ys.length = xs.length → (∀ i y,ys[i]? = some y → R i y H') → Q (.ref l) H') :
    CompAt (Itl K a) fv te σ H1 Q := by
  intro l hl
  refine comp_list (K := K) (a := a) (xs := xs) (l := l) (fv := fv) (Qp := fun H2 => Q (.ref l) H2) (fun i acc H2 => acc.length = i ∧ Same H1 H2 ∧ H2 l = some (.lst acc) ∧ ∀ j y,acc[j]? = some y → R j y H2)
    ⟨rfl,Same.new hl,upd_same,fun j y h => by simp at h⟩ ?_ ?_ ?_
  · rintro i acc H2 hi ⟨e1,sm,e3,_⟩
    exact ⟨sm.seq hL,e3,small1000 (by omega)⟩
  · rintro i x acc H2 Kc hx ⟨e1,sm,e3,hr⟩ kk
    refine hs i x H2 Kc hx sm fun y H4 s4 ry => kk y H4 (s4 _ _ e3) ⟨by simp [e1],(sm.trans s4).upd hl,upd_same,fun j z hz => ?_⟩
    have t4 := SameT.upd (ys := acc ++ [y]) (s4 _ _ e3)
    rcases Nat.lt_trichotomy j acc.length with h | h | h
    · rw [List.getElem?_append_left h] at hz
      exact hR _ _ _ _ (s4.t.trans t4) (hr j z hz)
    · subst h
      rw [List.getElem?_append_right (Nat.le_refl _),Nat.sub_self] at hz
      cases hz
      rw [e1]
      exact hR _ _ _ _ t4 ry
    · rw [List.getElem?_eq_none (by simp; omega)] at hz
      cases hz
  · rintro acc H2 ⟨e1,sm,e3,hr⟩
    exact hd l acc H2 hl sm e3 e1 hr
theorem nice_int : Nice "int" := .inl rfl
theorem nice_bool : Nice "bool" := .inr (.inl rfl)
theorem nice_tuple : Nice "tuple" := .inr (.inr (.inl rfl))
theorem nice_list : Nice "list" := .inr (.inr (.inr (.inl rfl)))
theorem nice_str : Nice "str" := .inr (.inr (.inr (.inr rfl)))
end L2
namespace L2
open PySem PySem.Spec PyProof.Rows
section
variable {X : Cx} {pos : Pos} {es : List Expr} {ta : TA}
def tTupA (t : TA) : TE := fun σ H Q => t σ H fun xs H1 => xs.length ≤ sizeLine ∧ ∀ p H2,Same H1 H2 → H2 p = some (.tup xs) → H1 p = none → Q (.ref p) H2
def tLstA (t : TA) : TE := fun σ H Q => t σ H fun xs H1 => xs.length ≤ sizeLine ∧ ∀ p H2,Same H1 H2 → H2 p = some (.lst xs) → H1 p = none → Q (.ref p) H2
theorem pe_tupA {x1} (h : PA X es ta) : PE X (.Tuple es x1 pos) (tTupA ta) := by
  intro pins s σ H Q I hq
  refine wpAny_Tuple_spliced (thn (h pos pins s σ H _ I hq) fun us s1 ⟨xs,H1,I1,r,z,q⟩ => ⟨by rw [← r.length]; exact z,?_⟩)
  have hf : H1 s1.heap.objs.size = none := I1.hok.fresh (Nat.le_refl _)
  refine ⟨.ref s1.heap.objs.size,upd H1 s1.heap.objs.size (.tup xs),I1.laid (t' := s1.toks) (fun b u e => Heap.get?_push_of_some _ e) (Nat.le_refl _) ?_,rfl,q _ _ (Same.new hf) upd_same hf⟩
  exact ⟨z,us,r,⟨_,Heap.get?_push_size _ rfl,rfl,_,rfl⟩⟩
theorem pe_lstA (h : PA X es ta) : PE X (.List es pos) (tLstA ta) := by
  intro pins s σ H Q I hq
  refine wpAny_List_spliced (thn (h pos pins s σ H _ I hq) fun us s1 ⟨xs,H1,I1,r,z,q⟩ => ⟨by rw [← r.length]; exact z,?_⟩)
  have hf : H1 s1.heap.objs.size = none := I1.hok.fresh (Nat.le_refl _)
  refine ⟨.ref s1.heap.objs.size,upd H1 s1.heap.objs.size (.lst xs),I1.laid (t' := s1.toks) (fun b u e => Heap.get?_push_of_some _ e) (Nat.le_refl _) ?_,rfl,q _ _ (Same.new hf) upd_same hf⟩
  exact ⟨z,us,0,r,Heap.get?_push_size _ rfl⟩
def rSlLA (K : PySem.W.Frag) : V → Option Int → Option Int → Hp → VK → Prop := fun x lo hi H Q => ∃ a xs,x = .ref a ∧ SqL K H a xs ∧ ∀ p H2,Same H H2 → H2 p = some (.lst (cutV xs lo hi)) → H p = none → Q (.ref p) H2
theorem sl_listA : SlR X (rSlLA X.K) := fun pins s σ H x v vl vu lo hi sl Q I rx hs pl pu ⟨a,xs,e,hx,q⟩ =>
  sl_list pins s σ H x v vl vu lo hi sl Q I rx hs pl pu ⟨a,xs,e,hx,fun p hp => q p _ (Same.new hp) upd_same hp⟩
def rCatA : R2 := fun x y H Q => ∃ l b xs zs,x = .ref l ∧ y = .ref b ∧ H l = some (.lst xs) ∧ H b = some (.lst zs) ∧ xs.length + zs.length ≤ sizeLine ∧ ∀ p H2,Same H H2 → H2 p = some (.lst (xs ++ zs)) → H p = none → Q (.ref p) H2
theorem op_catA : OpR X (binaryOp .Add) rCatA := fun pins s σ H x y v u Q I rx ry ⟨l,b,xs,zs,e1,e2,h1,h2,hz,q⟩ =>
  op_cat pins s σ H x y v u Q I rx ry ⟨l,b,xs,zs,e1,e2,h1,h2,hz,fun p hp => q p _ (Same.new hp) upd_same hp⟩
def rRepA : R2 := fun x y H Q => ∃ l k xs,x = .ref l ∧ y = .int k ∧ H l = some (.lst xs) ∧ -(2 ^ 63) ≤ k ∧ k < 2 ^ 63 ∧ xs.length * k.toNat ≤ sizeLine ∧ ∀ p H2,Same H H2 → H2 p = some (.lst (List.replicate k.toNat xs).flatten) → H p = none → Q (.ref p) H2
theorem op_repA : OpR X (binaryOp .Mult) rRepA := fun pins s σ H x y v u Q I rx ry ⟨l,k,xs,e1,e2,h1,h2,h3,hz,q⟩ =>
  op_rep pins s σ H x y v u Q I rx ry ⟨l,k,xs,e1,e2,h1,h2,h3,hz,fun p hp => q p _ (Same.new hp) upd_same hp⟩
theorem call_list_ofA : CallR X (.type "list") (fun xs H Q => ∃ p ys,xs = [.ref p] ∧ (SqL X.K H p ys ∨ SqT X.K H p ys) ∧ ∀ l H2,Same H H2 → H2 l = some (.lst ys) → H l = none → Q (.ref l) H2) := fun pins s σ H xs us Q I r ⟨p,ys,e,hq,q⟩ =>
  call_list_of pins s σ H xs us Q I r ⟨p,ys,e,hq,fun l hl => q l _ (Same.new hl) upd_same hl⟩
structure Upd (H H' : Hp) (l : Addr) (xs ys : List V) : Prop where
  was : H l = some (.lst xs)
  now : H' l = some (.lst ys)
  oth : ∀ b,b ≠ l → H' b = H b
theorem Upd.mk' {H : Hp} {l : Addr} {xs ys : List V} (h : H l = some (.lst xs)) : Upd H (L2.upd H l (.lst ys)) l xs ys := ⟨h,upd_same,fun _ n => upd_ne n⟩
theorem Upd.t {H H' : Hp} {l : Addr} {xs ys : List V} (u : Upd H H' l xs ys) : SameT H H' := fun b zs e => by
  rw [u.oth b (ne_of e u.was (by intro z; cases z))]
  exact e
theorem Upd.same {H0 H H' : Hp} {l : Addr} {xs ys : List V} (u : Upd H H' l xs ys) (s : Same H0 H) (h : H0 l = none) : Same H0 H' := fun b o e => by
  rw [u.oth b (ne_of_none e h)]
  exact s b o e
theorem Upd.at {H H' : Hp} {l b : Addr} {xs ys : List V} {o : HO} (u : Upd H H' l xs ys) (n : b ≠ l) (e : H b = some o) : H' b = some o := by
  rw [u.oth b n]
  exact e
def rAppendA : V → List V → Hp → VK → Prop := fun x vs H Q => ∃ l xs y,x = .ref l ∧ vs = [y] ∧ H l = some (.lst xs) ∧ xs.length < sizeLine ∧ ∀ H',Upd H H' l xs (xs ++ [y]) → Q .non H'
theorem mt_appendA : MtM X "list.append" rAppendA := fun pins s σ H x xs v us Q I rx rs ⟨l,ys,y,e1,e2,h,hz,q⟩ =>
  mt_append pins s σ H x xs v us Q I rx rs ⟨l,ys,y,e1,e2,h,hz,q _ (.mk' h)⟩
def rSetLA : V → V → V → Hp → (Hp → Prop) → Prop := fun o i v H Q => ∃ p xs k j,o = .ref p ∧ i = .int k ∧ H p = some (.lst xs) ∧ ixN xs.length k = some j ∧ ∀ H',Upd H H' p xs (xs.set j v) → Q H'
theorem set_listA : PSet X rSetLA := fun pins s σ H o i v uo ui uv Q I ro ri rv ⟨p,xs,k,j,e1,e2,h,hj,q⟩ =>
  set_list pins s σ H o i v uo ui uv Q I ro ri rv ⟨p,xs,k,j,e1,e2,h,hj,q _ (.mk' h)⟩
def rReverseA : V → List V → Hp → VK → Prop := fun x vs H Q => ∃ l xs,x = .ref l ∧ vs = [] ∧ H l = some (.lst xs) ∧ ∀ H',Upd H H' l xs xs.reverse → Q .non H'
theorem mt_reverseA : MtM X "list.reverse" rReverseA := fun pins s σ H x xs v us Q I rx rs ⟨l,ys,e1,e2,h,q⟩ =>
  mt_reverse pins s σ H x xs v us Q I rx rs ⟨l,ys,e1,e2,h,q _ (.mk' h)⟩
end
end L2
namespace L2
open PySem PySem.Spec PyProof.Rows
theorem menu {K : PySem.W.Frag} {H : Hp} {l : Addr} {xs : List V} {i : Int} {Q : VK} (e : H l = some (.lst xs)) (h0 : 0 ≤ i) (h1 : i < (xs.length : Int)) (h : ∀ v ∈ xs,Q v H) : rIxL K (.ref l) (.int i) H Q := by
  obtain ⟨v,hv,mv⟩ := Sp1.atI_mem h0 h1
  exact ⟨l,xs,i,v,rfl,rfl,SqL.of e,hv,h v mv⟩
theorem len3 {α : Type} {xs : List α} (h : xs.length = 3) : ∃ a b c,xs = [a,b,c] := match xs,h with | [a,b,c],_ => ⟨a,b,c,rfl⟩
theorem len2 {α : Type} {xs : List α} (h : xs.length = 2) : ∃ a b,xs = [a,b] := match xs,h with | [a,b],_ => ⟨a,b,rfl⟩
theorem len4 {α : Type} {xs : List α} (h : xs.length = 4) : ∃ a b c d,xs = [a,b,c,d] := match xs,h with | [a,b,c,d],_ => ⟨a,b,c,d,rfl⟩
theorem len5 {α : Type} {xs : List α} (h : xs.length = 5) : ∃ a b c d e,xs = [a,b,c,d,e] := match xs,h with | [a,b,c,d,e],_ => ⟨a,b,c,d,e,rfl⟩
theorem len6 {α : Type} {xs : List α} (h : xs.length = 6) : ∃ a b c d e f,xs = [a,b,c,d,e,f] := match xs,h with | [a,b,c,d,e,f],_ => ⟨a,b,c,d,e,f,rfl⟩
end L2
namespace L2
open PySem PySem.Spec PyProof.Rows
section
variable {X : Cx} {pins : List (Addr × Obj)} {σ : St} {H : Hp} {s : Shared}
theorem Inv.turnedL {h' : Heap} {t' : Nat} {ch : List Addr} (I : Inv X pins σ H s) (k : ∀ b o,b ∉ ch → s.heap.get? b = some o → h'.get? b = some o) (hf : ∀ b ∈ ch,FpOk X pins H b) : Inv X pins σ H { s with heap := h',toks := t' } := by
  have nit : ∀ b u,H b = some u → b ∉ ch := fun b u e z => by
    have n := (hf b z).1
    rw [n] at e
    cases e
  refine I.step (g' := s.gens) (d' := s.drawn) (ch := ch) (fun b hb => ?_) (fun b o _ _ hc e _ => k b o hc e) (fun b o _ _ hc e _ => ⟨o.slots,k b o hc e⟩) (fun _ _ _ _ n => n)
    (fun b o hc e => ⟨o,k b o hc e⟩) (fun _ _ e => e) (fun _ _ _ e => e) (fun b ps e => ⟨#[],by rw [e]; simp⟩) (fun m hm => ?_) (fun b u e => ?_) I.bare
  · obtain ⟨f0,f1,f2,f3,f4,f5⟩ := hf b hb
    exact ⟨f3,f1,f4,f5⟩
  · obtain ⟨o,es,ep,ho,r⟩ := hm
    exact ⟨o,es,ep,k _ o (fun z => (hf _ z).2.1 rfl) ho,r⟩
  · refine (I.hok b u e).stay (fun c v hc q => k c v ?_ q) (fun _ q => q) fun _ _ q => q
    rcases hc with z | z
    · rw [z]; exact nit b u e
    · exact nit c _ z
theorem turn_item {E : Value → Shared → Prop} {elts : List Expr} {kt : Nat} {pos : Pos} {i n : Nat} {z : Addr} {fpw wr : List Addr} {Pt : Nat → Array Value → Prop} {Stt : Nat → Heap → Prop} {Mid : Nat → Addr → Heap → Prop} {R : Value → Shared → Prop}
    (W : WalksT X.prog X.w X.A z fpw wr n Pt Stt Mid) (I : Inv X pins σ H s) (hwr : ∀ b ∈ wr,FpOk X pins H b) (hi : i < n) (st : Stt i s.heap)
    (k : ∀ T vals s2,Pt i vals → s.heap.objs.size ≤ T → s2.heap.IsTuple T vals → Stt (i + 1) s2.heap → Inv X pins σ H s2 → (∀ b o,b ∉ wr → s.heap.get? b = some o → s2.heap.get? b = some o) → R (.ref T) s2) :
    wpAny (model X.prog X.w) X.A (pyNext (.ref z)) (fun r s1 => ∃ u,r = some u ∧ wpAny (model X.prog X.w) X.A (letOwnedTupleGo (.Tuple elts kt pos) (.ref z) u) (fun _ s2 => R u s2) E s1) E s := by
  refine W.item i s _ E hi st fun T vals h' tk hp hT tup mid kk => ⟨.ref T,rfl,?_⟩
  refine W.go elts kt pos i T _ _ E mid fun h2 st2 k2 => ?_
  have kall : ∀ b o,b ∉ wr → s.heap.get? b = some o → h2.get? b = some o := fun b o hb e => k2 b o hb (kk b o hb e)
  obtain ⟨o,eo,ro⟩ := tup
  exact k T vals _ hp hT ⟨o,k2 T o (W.apart i T _ mid) eo,ro⟩ st2 (I.turnedL (t' := tk) kall hwr) kall
theorem track_tup {T : Addr} {s2 : Shared} {xs : List V} {us : List Value} (I : Inv X pins σ H s) (J : Inv X pins σ H s2) (hT : s.heap.objs.size ≤ T) (ht : s2.heap.IsTuple T us.toArray) (r : Vals xs us) (hz : xs.length ≤ sizeLine) : Inv X pins σ (upd H T (.tup xs)) s2 ∧ H T = none := by
  have hn : H T = none := I.hok.fresh hT
  obtain ⟨f0,f1,f2,f3,f4,f5⟩ := I.fpOk hT hn
  refine ⟨J.track hn ?_ f1 f4 f5 ⟨hz,us,r,ht⟩,hn⟩
  cases e : X.s₀.heap.get? T with
  | none => rfl
  | some o =>
    have h1 := Heap.lt_size e
    have h2 := I.sz
    exact absurd (Nat.lt_of_lt_of_le h1 (Nat.le_trans h2 hT)) (Nat.lt_irrefl _)
end
def Itz (K : PySem.W.Frag) (l1 l2 : Addr) : It :=
  ⟨fun i H => ∃ xs ys x y,SqL K H l1 xs ∧ SqL K H l2 ys ∧ xs[i]? = some x ∧ ys[i]? = some y,
   fun i H v H' => ∃ p x y,v = .ref p ∧ H p = none ∧ H' = upd H p (.tup [x,y]) ∧ ∀ xs ys,SqL K H l1 xs → SqL K H l2 ys → xs[i]? = some x ∧ ys[i]? = some y,
   fun i H => ∃ xs ys,SqL K H l1 xs ∧ SqL K H l2 ys ∧ i = min xs.length ys.length⟩
def Ite (K : PySem.W.Frag) (l : Addr) : It :=
  ⟨fun i H => ∃ xs x,SqL K H l xs ∧ xs[i]? = some x,
   fun i H v H' => ∃ p x,v = .ref p ∧ H p = none ∧ H' = upd H p (.tup [.int (i : Int),x]) ∧ ∀ xs,SqL K H l xs → xs[i]? = some x,
   fun i H => ∃ xs,SqL K H l xs ∧ i = xs.length⟩
theorem turn_zip {P : Program} {w : World} {K : PySem.W.Frag} {elts : List Expr} {kt : Nat} {pos : Pos} (z TI TO i1 i2 l1 l2 : Addr) (D : ZipApart z TI TO i1 i2 l1 l2) :
    Turn P w K (.Tuple elts kt pos) (Itz K l1 l2) [z,TI,TO,i1,i2] z (fun i h => IsZip h z TI TO .none ∧ IsPair h TI (.ref i1) (.ref i2) ∧ (∃ a b,IsPair h TO a b) ∧ h.IsListIter i1 l1 i ∧ h.IsListIter i2 l2 i) where
  mem := by simp
  obj := fun i h st b hb => by
    obtain ⟨hz,hTI,⟨a,c,hTO⟩,⟨o1,e1,c1,d1⟩,⟨o2,e2,c2,d2⟩⟩ := st
    simp only [List.mem_cons,List.not_mem_nil,or_false] at hb
    rcases hb with rfl | rfl | rfl | rfl | rfl
    · exact ⟨_,hz,fun v y => by cases y⟩
    · exact ⟨_,hTI,fun v y => by cases y⟩
    · exact ⟨_,hTO,fun v y => by cases y⟩
    · exact ⟨o1,e1,fun v y => by rw [d1] at y; cases y⟩
    · exact ⟨o2,e2,fun v y => by rw [d2] at y; cases y⟩
  keep := fun i h h' st k => by
    obtain ⟨hz,hTI,⟨a,c,hTO⟩,h1,h2⟩ := st
    exact ⟨k z (by simp) _ hz,k TI (by simp) _ hTI,⟨a,c,k TO (by simp) _ hTO⟩,h1.at fun o e => k i1 (by simp) o e,h2.at fun o e => k i2 (by simp) o e⟩
  item := by
    intro X hP hw hK hc i pins s σ H E I hf st hg
    subst hP hw hK
    obtain ⟨xs,ys,x,y,q1,q2,hx,hy⟩ := hg
    obtain ⟨its,r1,p1,_⟩ := I.list q1
    obtain ⟨jts,r2,p2,_⟩ := I.list q2
    obtain ⟨u1,hu1,ru1⟩ := r1.get hx
    obtain ⟨u2,hu2,ru2⟩ := r2.get hy
    have W := WalksT.zip2 (prog := X.prog) (w := X.w) (I.ok.hd hc) z TI TO i1 i2 l1 l2 D its.toArray jts.toArray
    have hn : i < min its.toArray.size jts.toArray.size := by
      have g1 := (List.getElem?_eq_some_iff.mp hu1).1
      have g2 := (List.getElem?_eq_some_iff.mp hu2).1
      simp only [List.size_toArray]
      omega
    obtain ⟨hz,hTI,hTO,h1,h2⟩ := st
    refine turn_item W I (fun b hb => hf b (by simp at hb ⊢; rcases hb with h | h | h | h <;> simp [h])) hn ⟨hz,hTI,hTO,h1,h2,p1.isList,p2.isList⟩ fun T vals s2 hp hT tup st2 J2 kall => ?_
    obtain ⟨v1,v2,e1,e2,rfl⟩ := hp
    have e1' : its[i]? = some v1 := by simpa using e1
    have e2' : jts[i]? = some v2 := by simpa using e2
    rw [hu1] at e1'
    rw [hu2] at e2'
    cases e1'
    cases e2'
    obtain ⟨J3,nT⟩ := track_tup (xs := [x,y]) (us := [u1,u2]) I J2 hT tup (.cons ru1 (.cons ru2 .nil)) (Sp1.sz (by simp))
    obtain ⟨hz2,hTI2,hTO2,h12,h22,_,_⟩ := st2
    refine ⟨.ref T,upd H T (.tup [x,y]),J3,rfl,⟨T,x,y,rfl,nT,rfl,fun as bs qa qb => ?_⟩,⟨hz2,hTI2,hTO2,h12,h22⟩,fun b hb => ?_⟩
    · rw [I.list_inj qa q1,I.list_inj qb q2]
      exact ⟨hx,hy⟩
    · have hb' : ∃ o,s.heap.get? b = some o := by
        obtain ⟨a,c,hTO⟩ := hTO
        obtain ⟨o1,e1,_⟩ := h1
        obtain ⟨o2,e2,_⟩ := h2
        simp only [List.mem_cons,List.not_mem_nil,or_false] at hb
        rcases hb with rfl | rfl | rfl | rfl | rfl
        · exact ⟨_,hz⟩
        · exact ⟨_,hTI⟩
        · exact ⟨_,hTO⟩
        · exact ⟨_,e1⟩
        · exact ⟨_,e2⟩
      obtain ⟨o,eo⟩ := hb'
      rw [upd_ne (Nat.ne_of_lt (Nat.lt_of_lt_of_le (Heap.lt_size eo) hT))]
      exact (hf b hb).1
  done := by
    intro X hP hw hK hc i pins s σ H E I hf st hg
    subst hP hw hK
    obtain ⟨xs,ys,q1,q2,rfl⟩ := hg
    obtain ⟨its,r1,p1,_⟩ := I.list q1
    obtain ⟨jts,r2,p2,_⟩ := I.list q2
    have W := WalksT.zip2 (prog := X.prog) (w := X.w) (I.ok.hd hc) z TI TO i1 i2 l1 l2 D its.toArray jts.toArray
    obtain ⟨hz,hTI,hTO,h1,h2⟩ := st
    have el : min its.toArray.size jts.toArray.size = min xs.length ys.length := by
      rw [List.size_toArray,List.size_toArray,r1.length,r2.length]
    refine W.done s _ E ?_ fun h' tk kk => ⟨rfl,I.turnedL (t' := tk) kk fun b hb => hf b (by simp at hb ⊢; rcases hb with h | h | h | h <;> simp [h])⟩
    rw [el]
    exact ⟨hz,hTI,hTO,h1,h2,p1.isList,p2.isList⟩
  self := fun _ _ _ _ _ st h => wpAny_pyIter_zip st.1 h
theorem turn_enum {P : Program} {w : World} {K : PySem.W.Frag} {elts : List Expr} {kt : Nat} {pos : Pos} (e it l : Addr) (hei : e ≠ it) (hle : l ≠ e) (hli : l ≠ it) :
    Turn P w K (.Tuple elts kt pos) (Ite K l) [e,it] e (fun i h => (∃ old,IsEnum h e it i old) ∧ h.IsListIter it l i) where
  mem := by simp
  obj := fun i h st b hb => by
    obtain ⟨⟨old,he⟩,⟨o1,e1,c1,d1⟩⟩ := st
    simp only [List.mem_cons,List.not_mem_nil,or_false] at hb
    rcases hb with rfl | rfl
    · exact ⟨_,he,fun v y => by cases y⟩
    · exact ⟨o1,e1,fun v y => by rw [d1] at y; cases y⟩
  keep := fun i h h' st k => by
    obtain ⟨⟨old,he⟩,h1⟩ := st
    exact ⟨⟨old,k e (by simp) _ he⟩,h1.at fun o x => k it (by simp) o x⟩
  item := by
    intro X hP hw hK hc i pins s σ H E I hf st hg
    subst hP hw hK
    obtain ⟨xs,x,q1,hx⟩ := hg
    obtain ⟨its,r1,p1,_⟩ := I.list q1
    obtain ⟨u1,hu1,ru1⟩ := r1.get hx
    have W := WalksT.enumerate (prog := X.prog) (w := X.w) (I.ok.hd hc) e it l hei hle hli its.toArray
    have hn : i < its.toArray.size := by
      have g1 := (List.getElem?_eq_some_iff.mp hu1).1
      simp only [List.size_toArray]
      omega
    obtain ⟨he,h1⟩ := st
    refine turn_item W I (fun b hb => hf b (by simpa using hb)) hn ⟨he,h1,p1.isList⟩ fun T vals s2 hp hT tup st2 J2 kall => ?_
    obtain ⟨tk,v1,e1,rfl⟩ := hp
    have e1' : its[i]? = some v1 := by simpa using e1
    rw [hu1] at e1'
    cases e1'
    obtain ⟨J3,nT⟩ := track_tup (xs := [.int (i : Int),x]) (us := [.int i tk,u1]) I J2 hT tup (.cons ⟨_,rfl⟩ (.cons ru1 .nil)) (Sp1.sz (by simp))
    obtain ⟨he2,h12,_⟩ := st2
    refine ⟨.ref T,upd H T (.tup [.int (i : Int),x]),J3,rfl,⟨T,x,rfl,nT,rfl,fun as qa => ?_⟩,⟨he2,h12⟩,fun b hb => ?_⟩
    · rw [I.list_inj qa q1]
      exact hx
    · have hb' : ∃ o,s.heap.get? b = some o := by
        obtain ⟨old,he⟩ := he
        obtain ⟨o1,e1,_⟩ := h1
        simp only [List.mem_cons,List.not_mem_nil,or_false] at hb
        rcases hb with rfl | rfl
        · exact ⟨_,he⟩
        · exact ⟨_,e1⟩
      obtain ⟨o,eo⟩ := hb'
      rw [upd_ne (Nat.ne_of_lt (Nat.lt_of_lt_of_le (Heap.lt_size eo) hT))]
      exact (hf b hb).1
  done := by
    intro X hP hw hK hc i pins s σ H E I hf st hg
    subst hP hw hK
    obtain ⟨xs,q1,rfl⟩ := hg
    obtain ⟨its,r1,p1,_⟩ := I.list q1
    have W := WalksT.enumerate (prog := X.prog) (w := X.w) (I.ok.hd hc) e it l hei hle hli its.toArray
    obtain ⟨he,h1⟩ := st
    refine W.done s _ E ?_ fun h' tk kk => ⟨rfl,I.turnedL (t' := tk) kk fun b hb => hf b (by simpa using hb)⟩
    rw [List.size_toArray,← r1.length]
    exact ⟨he,h1,p1.isList⟩
  self := fun _ _ _ _ _ st h => by
    obtain ⟨⟨old,he⟩,_⟩ := st
    exact wpAny_pyIter_enum he h
section
variable {X : Cx} {elts : List Expr} {kt : Nat} {tpos : Pos}
def iZip (K : PySem.W.Frag) (ta : TA) : TI := fun σ H R => ta σ H fun vs H1 => ∃ a b,vs = [.ref a,.ref b] ∧ (∃ xs,SqL K H1 a xs) ∧ (∃ ys,SqL K H1 b ys) ∧ R (Itz K a b) H1
def iEnum (K : PySem.W.Frag) (ta : TA) : TI := fun σ H R => ta σ H fun vs H1 => ∃ a,vs = [.ref a] ∧ (∃ xs,SqL K H1 a xs) ∧ R (Ite K a) H1
theorem bt_zip : bootBuiltins "zip" = some (.type "zip") := by decide +kernel
theorem bt_enumerate : bootBuiltins "enumerate" = some (.type "enumerate") := by decide +kernel
theorem pi_zip {a b : Expr} {ta : TA} {p pos : Pos} (hg : Gl X "zip") (hm : X.mg "zip" = none) (ha : PA X [a,b] ta) (hs : starEach [a,b] X.env = [(false,eval a X.env),(false,eval b X.env)] := by rfl) (hs2 : starEach [b] X.env = [(false,eval b X.env)] := by rfl) :
    PI X (.Tuple elts kt tpos) (.Call (.Name "zip" p) [a,b] [] pos) (iZip X.K ta) := by
  intro pins s σ H R I h
  refine Call_ (ld_blt I hg hm bt_zip (PyProof.Rows.callWith_type1 (thn (ha pos pins s σ H _ I h) fun us s1 ⟨vs,H1,I1,r1,q1⟩ => ?_) (by rw [hs,hs2]) (by rw [hs2]; rfl)))
  obtain ⟨l1,l2,e,⟨xs,hx⟩,⟨ys,hy⟩,q⟩ := q1
  subst e
  cases r1 with
  | cons r rr =>
    cases rr with
    | cons r' rr =>
      cases rr
      cases r
      cases r'
      obtain ⟨its,_,p1,_⟩ := I1.list hx
      obtain ⟨jts,_,p2,_⟩ := I1.list hy
      refine call_zip_2 p1.isList p2.isList fun h' hz hTI hTO hi1 hi2 hsz hk => ?_
      refine wpAny_pyIter_zip hz ?_
      have a1 : l1 < s1.heap.objs.size := by obtain ⟨_,e,_⟩ := p1.isList; exact Heap.lt_size e
      have a2 : l2 < s1.heap.objs.size := by obtain ⟨_,e,_⟩ := p2.isList; exact Heap.lt_size e
      refine ⟨s1.heap.objs.size + 4,[s1.heap.objs.size + 4,s1.heap.objs.size + 2,s1.heap.objs.size + 3,s1.heap.objs.size,s1.heap.objs.size + 1],_,_,H1,rfl,I1.kept (t' := s1.toks) hk,turn_zip _ _ _ _ _ l1 l2 (zipApart_new a1 a2),⟨hz,hTI,⟨_,_,hTO⟩,hi1,hi2⟩,fun b hb => ?_,q⟩
      have hb' : s1.heap.objs.size ≤ b := by
        simp only [List.mem_cons,List.not_mem_nil,or_false] at hb
        rcases hb with rfl | rfl | rfl | rfl | rfl <;> omega
      exact I1.fpOk hb' (I1.hok.fresh hb')
theorem pi_enum {a : Expr} {ta : TA} {p pos : Pos} (hg : Gl X "enumerate") (hm : X.mg "enumerate" = none) (ha : PA X [a] ta) (hs : starEach [a] X.env = [(false,eval a X.env)] := by rfl) :
    PI X (.Tuple elts kt tpos) (.Call (.Name "enumerate" p) [a] [] pos) (iEnum X.K ta) := by
  intro pins s σ H R I h
  refine Call_ (ld_blt I hg hm bt_enumerate (PyProof.Rows.callWith_type1 (thn (ha pos pins s σ H _ I h) fun us s1 ⟨vs,H1,I1,r1,q1⟩ => ?_) hs rfl))
  obtain ⟨l,e,⟨xs,hx⟩,q⟩ := q1
  subst e
  cases r1 with
  | cons r rr =>
    cases rr
    cases r
    obtain ⟨its,_,p1,_⟩ := I1.list hx
    refine call_enumerate_list p1.isList fun h' he hi hsz hk => ?_
    refine wpAny_pyIter_enum he ?_
    have a1 : l < s1.heap.objs.size := by obtain ⟨_,e,_⟩ := p1.isList; exact Heap.lt_size e
    refine ⟨s1.heap.objs.size + 1,[s1.heap.objs.size + 1,s1.heap.objs.size],_,_,H1,rfl,I1.kept (t' := s1.toks) hk,turn_enum _ _ l (Nat.succ_ne_self _) (Nat.ne_of_lt (Nat.lt_succ_of_lt a1)) (Nat.ne_of_lt a1),⟨⟨_,he⟩,hi⟩,fun b hb => ?_,q⟩
    have hb' : s1.heap.objs.size ≤ b := by
      simp only [List.mem_cons,List.not_mem_nil,or_false] at hb
      rcases hb with rfl | rfl <;> omega
    exact I1.fpOk hb' (I1.hok.fresh hb')
end
theorem for_zip {K : PySem.W.Frag} {a b : Addr} {xs ys : List V} {g : TG} {tb : TS} {D : Ends} {σ : St} {H : Hp} (Pv : Nat → St → Hp → Prop) (h0 : Pv 0 σ H) (hl : ∀ i σ H,i ≤ min xs.length ys.length → Pv i σ H → SqL K H a xs ∧ SqL K H b ys)
    (hs : ∀ i x y p σ H H1,xs[i]? = some x → ys[i]? = some y → Pv i σ H → Same H H1 → H1 p = some (.tup [x,y]) → g (.ref p) σ H1 fun σ2 H2 => tb { D with nx := Pv (i + 1),ct := Pv (i + 1),bk := D.nx } σ2 H2) (hd : ∀ σ H,Pv (min xs.length ys.length) σ H → D.nx σ H) :
    ∃ W : Nat → Nat → St → Hp → Prop,(∃ m,W 0 m σ H) ∧ ∀ i m σ H,W i m σ H →
      ((Itz K a b).stop i H ∧ D.nx σ H) ∨ ((Itz K a b).go i H ∧ ∃ N : St → Hp → Prop,(∀ σ' H',N σ' H' → ∃ m',m' < m ∧ W (i + 1) m' σ' H') ∧ ∀ x H',(Itz K a b).yld i H x H' → g x σ H' fun σ2 H2 => tb { D with nx := N,ct := N,bk := D.nx } σ2 H2) := by
  refine ⟨fun i m σ H => m = min xs.length ys.length - i ∧ i ≤ min xs.length ys.length ∧ Pv i σ H,⟨_,rfl,Nat.zero_le _,h0⟩,?_⟩
  rintro i m σ H ⟨rfl,hi,p⟩
  obtain ⟨q1,q2⟩ := hl i σ H hi p
  by_cases hlt : i < min xs.length ys.length
  · have h1 : i < xs.length := by omega
    have h2 : i < ys.length := by omega
    refine .inr ⟨⟨xs,ys,xs[i],ys[i],q1,q2,by simp [h1],by simp [h2]⟩,Pv (i + 1),fun σ' H' p' => ⟨_,by omega,rfl,hlt,p'⟩,fun v H' y => ?_⟩
    obtain ⟨t,x,y,rfl,nt,rfl,e⟩ := y
    obtain ⟨e1,e2⟩ := e xs ys q1 q2
    exact hs i x y t σ H _ e1 e2 p (Same.new nt) upd_same
  · have e : i = min xs.length ys.length := by omega
    subst e
    exact .inl ⟨⟨xs,ys,q1,q2,rfl⟩,hd σ H p⟩
theorem for_enum {K : PySem.W.Frag} {a : Addr} {xs : List V} {g : TG} {tb : TS} {D : Ends} {σ : St} {H : Hp} (Pv : Nat → St → Hp → Prop) (h0 : Pv 0 σ H) (hl : ∀ i σ H,i ≤ xs.length → Pv i σ H → SqL K H a xs)
    (hs : ∀ i x p σ H H1,xs[i]? = some x → Pv i σ H → Same H H1 → H1 p = some (.tup [.int (i : Int),x]) → g (.ref p) σ H1 fun σ2 H2 => tb { D with nx := Pv (i + 1),ct := Pv (i + 1),bk := D.nx } σ2 H2) (hd : ∀ σ H,Pv xs.length σ H → D.nx σ H) :
    ∃ W : Nat → Nat → St → Hp → Prop,(∃ m,W 0 m σ H) ∧ ∀ i m σ H,W i m σ H →
      ((Ite K a).stop i H ∧ D.nx σ H) ∨ ((Ite K a).go i H ∧ ∃ N : St → Hp → Prop,(∀ σ' H',N σ' H' → ∃ m',m' < m ∧ W (i + 1) m' σ' H') ∧ ∀ x H',(Ite K a).yld i H x H' → g x σ H' fun σ2 H2 => tb { D with nx := N,ct := N,bk := D.nx } σ2 H2) := by
  refine ⟨fun i m σ H => m = xs.length - i ∧ i ≤ xs.length ∧ Pv i σ H,⟨_,rfl,Nat.zero_le _,h0⟩,?_⟩
  rintro i m σ H ⟨rfl,hi,p⟩
  have q1 := hl i σ H hi p
  by_cases hlt : i < xs.length
  · refine .inr ⟨⟨xs,xs[i],q1,by simp [hlt]⟩,Pv (i + 1),fun σ' H' p' => ⟨_,by omega,rfl,hlt,p'⟩,fun v H' y => ?_⟩
    obtain ⟨t,x,rfl,nt,rfl,e⟩ := y
    exact hs i x t σ H _ (e xs q1) p (Same.new nt) upd_same
  · have e : i = xs.length := by omega
    subst e
    exact .inl ⟨⟨xs,q1,rfl⟩,hd σ H p⟩
end L2
namespace L2
open PySem PySem.Spec PyProof.Rows
inductive D where
  | non | bl (b : Bool) | int (i : Int) | str (x : Str) | tup (ds : List D) | lst (ds : List D)
inductive Rp (H : Hp) : Nat → V → D → Prop where
  | non {n : Nat} : Rp H n .non .non
  | bl {n : Nat} {b : Bool} : Rp H n (.bl b) (.bl b)
  | int {n : Nat} {i : Int} : Rp H n (.int i) (.int i)
  | str {n : Nat} {x : Str} : Rp H n (.str x) (.str x)
  | tup {n : Nat} {p : Addr} {xs : List V} {ds : List D} (e : H p = some (.tup xs)) (hl : xs.length = ds.length) (h : ∀ (j : Nat) x d,xs[j]? = some x → ds[j]? = some d → Rp H n x d) : Rp H (n + 1) (.ref p) (.tup ds)
  | lst {n : Nat} {p : Addr} {xs : List V} {ds : List D} (e : H p = some (.lst xs)) (hl : xs.length = ds.length) (h : ∀ (j : Nat) x d,xs[j]? = some x → ds[j]? = some d → Rp H n x d) : Rp H (n + 1) (.ref p) (.lst ds)
mutual
def deq : D → D → Bool
  | .non,.non => true
  | .bl a,.bl b => a == b
  | .bl a,.int b => (if a then 1 else 0) == b
  | .int a,.bl b => a == (if b then 1 else 0)
  | .int a,.int b => a == b
  | .str a,.str b => a == b
  | .tup xs,.tup ys => deqs xs ys
  | .lst xs,.lst ys => deqs xs ys
  | _,_ => false
def deqs : List D → List D → Bool
  | [],[] => true
  | x :: xs,y :: ys => deq x y && deqs xs ys
  | _,_ => false
end
theorem deqs_all : ∀ (ds es : List D),((List.range (min ds.length es.length)).all (fun j => deq (ds.getD j .non) (es.getD j .non)) && ds.length == es.length) = deqs ds es
  | [],[] => by simp [deqs]
  | [],e :: es => by simp [deqs]
  | d :: ds,[] => by simp [deqs]
  | d :: ds,e :: es => by
    have ih := deqs_all ds es
    have hm : min (d :: ds).length (e :: es).length = min ds.length es.length + 1 := by simp only [List.length_cons]; omega
    rw [hm,List.range_succ_eq_map,List.all_cons,List.all_map]
    simp only [deqs,List.getD_cons_zero,List.length_cons]
    rw [← ih,Bool.and_assoc]
    congr 1
    simp [Function.comp_def]
theorem deqs_len {ds es : List D} (h : ds.length ≠ es.length) : deqs ds es = false := by
  rw [← deqs_all]
  simp [h]
theorem deqs_all' {ds es : List D} (h : ds.length = es.length) : (List.range ds.length).all (fun j => deq (ds.getD j .non) (es.getD j .non)) = deqs ds es := by
  rw [← deqs_all,h]
  simp
theorem deqs_of {ds es : List D} (hl : ds.length = es.length) (h : ∀ (j : Nat) d e,ds[j]? = some d → es[j]? = some e → deq d e = true) : deqs ds es = true := by
  rw [← deqs_all' hl,List.all_eq_true]
  intro j hj
  have hj' : j < ds.length := List.mem_range.mp hj
  have hj2 : j < es.length := by omega
  have e1 : ds[j]? = some ds[j] := List.getElem?_eq_getElem hj'
  have e2 : es[j]? = some es[j] := List.getElem?_eq_getElem hj2
  rw [List.getD_eq_getElem?_getD,List.getD_eq_getElem?_getD,e1,e2]
  exact h j _ _ e1 e2
theorem get_of_len {α β : Type} {xs : List α} {ds : List β} {j : Nat} {d : β} (hl : xs.length = ds.length) (h : ds[j]? = some d) : ∃ x,xs[j]? = some x := by
  have := (List.getElem?_eq_some_iff.mp h).1
  exact ⟨xs[j],List.getElem?_eq_getElem (by omega)⟩
theorem Rp.self {H : Hp} {n m : Nat} {v : V} {d e : D} (r : Rp H n v d) (q : Rp H m v e) : deq d e = true := by
  induction r generalizing m e with
  | non => cases q; rfl
  | bl => cases q; simp [deq]
  | int => cases q; simp [deq]
  | str => cases q; simp [deq]
  | tup e1 hl h ih =>
    cases q with
    | tup e2 hl2 h2 =>
      rw [e1] at e2
      cases e2
      refine deqs_of (by omega) fun j a b ea eb => ?_
      obtain ⟨x,hx⟩ := get_of_len hl ea
      exact ih j x a hx ea (h2 j x b hx eb)
    | lst e2 hl2 h2 => rw [e1] at e2; cases e2
  | lst e1 hl h ih =>
    cases q with
    | tup e2 hl2 h2 => rw [e1] at e2; cases e2
    | lst e2 hl2 h2 =>
      rw [e1] at e2
      cases e2
      refine deqs_of (by omega) fun j a b ea eb => ?_
      obtain ⟨x,hx⟩ := get_of_len hl ea
      exact ih j x a hx ea (h2 j x b hx eb)
section
variable {X : Cx} {pins : List (Addr × Obj)} {σ : St} {H : Hp} {s : Shared}
theorem elts_at {A : Around} {xs ys : List V} {us ws : List Value} {ds es : List D} (r : Vals xs us) (r' : Vals ys ws) (hl : xs.length = ds.length) (hl' : ys.length = es.length)
    (h : ∀ (j : Nat) x y d e u w,xs[j]? = some x → ys[j]? = some y → ds[j]? = some d → es[j]? = some e → RelV x u → RelV y w → SeqAt.EqAt A s u w (deq d e))
    (j : Nat) (h1 : j < us.toArray.size) (h2 : j < ws.toArray.size) : SeqAt.EqAt A s us.toArray[j] ws.toArray[j] (deq (ds.getD j .non) (es.getD j .non)) := by
  rw [List.size_toArray] at h1 h2
  obtain ⟨a,ea,ra⟩ := val_get r h1
  obtain ⟨c,ec,rc⟩ := val_get r' h2
  have g1 := (List.getElem?_eq_some_iff.mp ea).1
  have g2 := (List.getElem?_eq_some_iff.mp ec).1
  have e1 : ds[j]? = some ds[j] := List.getElem?_eq_getElem (by omega)
  have e2 : es[j]? = some es[j] := List.getElem?_eq_getElem (by omega)
  rw [List.getD_eq_getElem?_getD,List.getD_eq_getElem?_getD,e1,e2]
  exact h j a c _ _ _ _ ea ec e1 e2 ra rc
theorem Rp.eqAt {n : Nat} {x : V} {d : D} (r : Rp H n x d) : ∀ {m : Nat} {y : V} {e : D} {A : Around} {u v : Value},Rp H m y e → Inv X pins σ H s → RelV x u → RelV y v → A.units + n < cLine → SeqAt.EqAt A s u v (deq d e) := by
  induction r with
  | non =>
    intro m y e A u v q I ru rv hu
    cases ru
    cases q with
    | non => cases rv; exact SeqAt.EqAt.same _
    | bl => cases rv; exact SeqAt.EqAt.none_bool _
    | int => obtain ⟨_,rfl⟩ := rv; exact SeqAt.EqAt.none_int _ _
    | str => obtain ⟨_,rfl⟩ := rv; exact SeqAt.EqAt.none_str _ _
    | tup e1 hl h => cases rv; obtain ⟨its,_,pl,_⟩ := I.tuple (SqT.of e1); exact SeqAt.EqAt.none_tuple pl (by omega)
    | lst e1 hl h => cases rv; obtain ⟨its,_,pl,_⟩ := I.list (SqL.of e1); exact SeqAt.EqAt.none_list pl.isList (by omega)
  | bl =>
    intro m y e A u v q I ru rv hu
    cases ru
    cases q with
    | non => cases rv; exact SeqAt.EqAt.bool_none _
    | bl => cases rv; exact SeqAt.EqAt.bool_bool _ _
    | int => obtain ⟨_,rfl⟩ := rv; exact SeqAt.EqAt.bool_int _ _ _
    | str => obtain ⟨_,rfl⟩ := rv; exact SeqAt.EqAt.bool_str _ _ _
    | tup e1 hl h => cases rv; obtain ⟨its,_,pl,_⟩ := I.tuple (SqT.of e1); exact SeqAt.EqAt.bool_tuple _ pl (by omega)
    | lst e1 hl h => cases rv; obtain ⟨its,_,pl,_⟩ := I.list (SqL.of e1); exact SeqAt.EqAt.bool_list _ pl.isList (by omega)
  | int =>
    intro m y e A u v q I ru rv hu
    obtain ⟨_,rfl⟩ := ru
    cases q with
    | non => cases rv; exact SeqAt.EqAt.int_none _ _
    | bl => cases rv; exact SeqAt.EqAt.int_bool _ _ _
    | int => obtain ⟨_,rfl⟩ := rv; exact SeqAt.EqAt.int_int _ _ _ _
    | str => obtain ⟨_,rfl⟩ := rv; exact SeqAt.EqAt.int_str _ _ _ _
    | tup e1 hl h => cases rv; obtain ⟨its,_,pl,_⟩ := I.tuple (SqT.of e1); exact SeqAt.EqAt.int_tuple _ _ pl (by omega)
    | lst e1 hl h => cases rv; obtain ⟨its,_,pl,_⟩ := I.list (SqL.of e1); exact SeqAt.EqAt.int_list _ _ pl.isList (by omega)
  | str =>
    intro m y e A u v q I ru rv hu
    obtain ⟨_,rfl⟩ := ru
    cases q with
    | non => cases rv; exact SeqAt.EqAt.str_none _ _
    | bl => cases rv; exact SeqAt.EqAt.str_bool _ _ _
    | int => obtain ⟨_,rfl⟩ := rv; exact SeqAt.EqAt.str_int _ _ _ _
    | str => obtain ⟨_,rfl⟩ := rv; exact SeqAt.EqAt.str_str _ _ _ _
    | tup e1 hl h => cases rv; obtain ⟨its,_,pl,_⟩ := I.tuple (SqT.of e1); exact SeqAt.EqAt.str_tuple _ _ pl (by omega)
    | lst e1 hl h => cases rv; obtain ⟨its,_,pl,_⟩ := I.list (SqL.of e1); exact SeqAt.EqAt.str_list _ _ pl.isList (by omega)
  | @tup n p xs ds e0 hl h ih =>
    intro m y e A u v q I ru rv hu
    cases ru
    obtain ⟨its,r1,pl,_⟩ := I.tuple (SqT.of e0)
    cases q with
    | non => cases rv; exact SeqAt.EqAt.tuple_none pl (by omega)
    | bl => cases rv; exact SeqAt.EqAt.tuple_bool _ pl (by omega)
    | int => obtain ⟨_,rfl⟩ := rv; exact SeqAt.EqAt.tuple_int _ _ pl (by omega)
    | str => obtain ⟨_,rfl⟩ := rv; exact SeqAt.EqAt.tuple_str _ _ pl (by omega)
    | lst e1 hl1 h1 => cases rv; obtain ⟨jts,_,pl',_⟩ := I.list (SqL.of e1); exact SeqAt.EqAt.tuple_list pl pl'.isList (by omega)
    | @tup m p' ys es e1 hl1 h1 =>
      cases rv
      by_cases hne : p = p'
      · subst hne
        have z : deq (.tup ds) (.tup es) = true := Rp.self (Rp.tup e0 hl h) (Rp.tup e1 hl1 h1)
        rw [z]
        exact SeqAt.EqAt.same _
      · obtain ⟨jts,r2,pl',_⟩ := I.tuple (SqT.of e1)
        have y := SeqAt.RcAt.tuples (A := A) (e := fun j => deq (ds.getD j .non) (es.getD j .non)) pl pl' (by omega) (elts_at r1 r2 hl hl1 fun j x y d e u w a b c k ra rb => ih j x d a c (h1 j y e b k) I ra rb (by show A.units + 1 + n < cLine; omega))
        rw [List.size_toArray,List.size_toArray,← r1.length,← r2.length,hl,hl1,deqs_all] at y
        exact SeqAt.EqAt.of_refs hne y
  | @lst n p xs ds e0 hl h ih =>
    intro m y e A u v q I ru rv hu
    cases ru
    obtain ⟨its,r1,pl,_⟩ := I.list (SqL.of e0)
    cases q with
    | non => cases rv; exact SeqAt.EqAt.list_none pl.isList (by omega)
    | bl => cases rv; exact SeqAt.EqAt.list_bool _ pl.isList (by omega)
    | int => obtain ⟨_,rfl⟩ := rv; exact SeqAt.EqAt.list_int _ _ pl.isList (by omega)
    | str => obtain ⟨_,rfl⟩ := rv; exact SeqAt.EqAt.list_str _ _ pl.isList (by omega)
    | tup e1 hl1 h1 => cases rv; obtain ⟨jts,_,pl',_⟩ := I.tuple (SqT.of e1); exact SeqAt.EqAt.list_tuple pl.isList pl' (by omega)
    | @lst m p' ys es e1 hl1 h1 =>
      cases rv
      by_cases hne : p = p'
      · subst hne
        have z : deq (.lst ds) (.lst es) = true := Rp.self (Rp.lst e0 hl h) (Rp.lst e1 hl1 h1)
        rw [z]
        exact SeqAt.EqAt.same _
      · obtain ⟨jts,r2,pl',_⟩ := I.list (SqL.of e1)
        have g1 := r1.length
        have g2 := r2.length
        by_cases hz : ds.length = es.length
        · have y := SeqAt.RcAt.lists (A := A) (e := fun j => deq (ds.getD j .non) (es.getD j .non)) pl.isList pl'.isList (by rw [List.size_toArray,List.size_toArray]; omega) (by omega) (elts_at r1 r2 hl hl1 fun j x y d e u w a b c k ra rb => ih j x d a c (h1 j y e b k) I ra rb (by show A.units + 1 + n < cLine; omega))
          rw [List.size_toArray,← r1.length,hl,deqs_all' hz] at y
          exact SeqAt.EqAt.of_refs hne y
        · rw [show deq (.lst ds) (.lst es) = false from deqs_len hz]
          exact SeqAt.EqAt.of_refs hne (SeqAt.RcAt.lists_lengths pl.isList pl'.isList (by rw [List.size_toArray,List.size_toArray]; simp; omega) (by omega))
end
end L2
namespace L2
open PySem PySem.Spec PyProof.Rows
section
variable {X : Cx} {pins : List (Addr × Obj)} {σ : St} {H : Hp} {s : Shared}
theorem Rp.rcAt {A : Around} {n m : Nat} {x y : V} {d e : D} {u v : Value} (r : Rp H n x d) (q : Rp H m y e) (I : Inv X pins σ H s) (ru : RelV x u) (rv : RelV y v) (hu : A.units + n + 1 < cLine) : SeqAt.RcAt A s u v (deq d e) := by
  cases r with
  | non =>
    cases q with
    | non =>
      cases ru
      cases rv
      exact SeqAt.RcAt.none_none
    | bl =>
      cases ru
      cases rv
      exact SeqAt.RcAt.none_bool _
    | int =>
      cases ru
      obtain ⟨_,rfl⟩ := rv
      exact SeqAt.RcAt.none_int _ _
    | str =>
      cases ru
      obtain ⟨_,rfl⟩ := rv
      exact SeqAt.RcAt.none_str _ _
    | @tup m p' ys es e1 hl1 h1 =>
      cases ru
      cases rv
      obtain ⟨jts,r2,pl',_⟩ := I.tuple (SqT.of e1)
      exact SeqAt.RcAt.none_tuple pl' (by omega)
    | @lst m p' ys es e1 hl1 h1 =>
      cases ru
      cases rv
      obtain ⟨jts,r2,pl',_⟩ := I.list (SqL.of e1)
      exact SeqAt.RcAt.none_list pl'.isList (by omega)
  | bl =>
    cases q with
    | non =>
      cases ru
      cases rv
      exact SeqAt.RcAt.bool_none _
    | bl =>
      cases ru
      cases rv
      exact SeqAt.RcAt.bool_bool _ _
    | int =>
      cases ru
      obtain ⟨_,rfl⟩ := rv
      exact SeqAt.RcAt.bool_int _ _ _
    | str =>
      cases ru
      obtain ⟨_,rfl⟩ := rv
      exact SeqAt.RcAt.bool_str _ _ _
    | @tup m p' ys es e1 hl1 h1 =>
      cases ru
      cases rv
      obtain ⟨jts,r2,pl',_⟩ := I.tuple (SqT.of e1)
      exact SeqAt.RcAt.bool_tuple _ pl' (by omega)
    | @lst m p' ys es e1 hl1 h1 =>
      cases ru
      cases rv
      obtain ⟨jts,r2,pl',_⟩ := I.list (SqL.of e1)
      exact SeqAt.RcAt.bool_list _ pl'.isList (by omega)
  | int =>
    cases q with
    | non =>
      obtain ⟨_,rfl⟩ := ru
      cases rv
      exact SeqAt.RcAt.int_none _ _
    | bl =>
      obtain ⟨_,rfl⟩ := ru
      cases rv
      exact SeqAt.RcAt.int_bool _ _ _
    | int =>
      obtain ⟨_,rfl⟩ := ru
      obtain ⟨_,rfl⟩ := rv
      exact SeqAt.RcAt.int_int _ _ _ _
    | str =>
      obtain ⟨_,rfl⟩ := ru
      obtain ⟨_,rfl⟩ := rv
      exact SeqAt.RcAt.int_str _ _ _ _
    | @tup m p' ys es e1 hl1 h1 =>
      obtain ⟨_,rfl⟩ := ru
      cases rv
      obtain ⟨jts,r2,pl',_⟩ := I.tuple (SqT.of e1)
      exact SeqAt.RcAt.int_tuple _ _ pl' (by omega)
    | @lst m p' ys es e1 hl1 h1 =>
      obtain ⟨_,rfl⟩ := ru
      cases rv
      obtain ⟨jts,r2,pl',_⟩ := I.list (SqL.of e1)
      exact SeqAt.RcAt.int_list _ _ pl'.isList (by omega)
  | str =>
    cases q with
    | non =>
      obtain ⟨_,rfl⟩ := ru
      cases rv
      exact SeqAt.RcAt.str_none _ _
    | bl =>
      obtain ⟨_,rfl⟩ := ru
      cases rv
      exact SeqAt.RcAt.str_bool _ _ _
    | int =>
      obtain ⟨_,rfl⟩ := ru
      obtain ⟨_,rfl⟩ := rv
      exact SeqAt.RcAt.str_int _ _ _ _
    | str =>
      obtain ⟨_,rfl⟩ := ru
      obtain ⟨_,rfl⟩ := rv
      exact SeqAt.RcAt.str_str _ _ _ _
    | @tup m p' ys es e1 hl1 h1 =>
      obtain ⟨_,rfl⟩ := ru
      cases rv
      obtain ⟨jts,r2,pl',_⟩ := I.tuple (SqT.of e1)
      exact SeqAt.RcAt.str_tuple _ _ pl' (by omega)
    | @lst m p' ys es e1 hl1 h1 =>
      obtain ⟨_,rfl⟩ := ru
      cases rv
      obtain ⟨jts,r2,pl',_⟩ := I.list (SqL.of e1)
      exact SeqAt.RcAt.str_list _ _ pl'.isList (by omega)
  | @tup n p xs ds e0 hl h =>
    cases q with
    | non =>
      cases ru
      cases rv
      obtain ⟨its,r1,pl,_⟩ := I.tuple (SqT.of e0)
      exact SeqAt.RcAt.tuple_none pl (by omega)
    | bl =>
      cases ru
      cases rv
      obtain ⟨its,r1,pl,_⟩ := I.tuple (SqT.of e0)
      exact SeqAt.RcAt.tuple_bool _ pl (by omega)
    | int =>
      cases ru
      obtain ⟨_,rfl⟩ := rv
      obtain ⟨its,r1,pl,_⟩ := I.tuple (SqT.of e0)
      exact SeqAt.RcAt.tuple_int _ _ pl (by omega)
    | str =>
      cases ru
      obtain ⟨_,rfl⟩ := rv
      obtain ⟨its,r1,pl,_⟩ := I.tuple (SqT.of e0)
      exact SeqAt.RcAt.tuple_str _ _ pl (by omega)
    | @tup m p' ys es e1 hl1 h1 =>
      cases ru
      cases rv
      obtain ⟨its,r1,pl,_⟩ := I.tuple (SqT.of e0)
      obtain ⟨jts,r2,pl',_⟩ := I.tuple (SqT.of e1)
      have y := SeqAt.RcAt.tuples (A := A) (e := fun j => deq (ds.getD j .non) (es.getD j .non)) pl pl' (by omega) (elts_at r1 r2 hl hl1 fun j x y d e u w a b c k ra rb => (h j x d a c).eqAt (h1 j y e b k) I ra rb (by show A.units + 1 + _ < cLine; omega))
      rw [List.size_toArray,List.size_toArray,← r1.length,← r2.length,hl,hl1,deqs_all] at y
      exact y
    | @lst m p' ys es e1 hl1 h1 =>
      cases ru
      cases rv
      obtain ⟨its,r1,pl,_⟩ := I.tuple (SqT.of e0)
      obtain ⟨jts,r2,pl',_⟩ := I.list (SqL.of e1)
      exact SeqAt.RcAt.tuple_list pl pl'.isList (by omega)
  | @lst n p xs ds e0 hl h =>
    cases q with
    | non =>
      cases ru
      cases rv
      obtain ⟨its,r1,pl,_⟩ := I.list (SqL.of e0)
      exact SeqAt.RcAt.list_none pl.isList (by omega)
    | bl =>
      cases ru
      cases rv
      obtain ⟨its,r1,pl,_⟩ := I.list (SqL.of e0)
      exact SeqAt.RcAt.list_bool _ pl.isList (by omega)
    | int =>
      cases ru
      obtain ⟨_,rfl⟩ := rv
      obtain ⟨its,r1,pl,_⟩ := I.list (SqL.of e0)
      exact SeqAt.RcAt.list_int _ _ pl.isList (by omega)
    | str =>
      cases ru
      obtain ⟨_,rfl⟩ := rv
      obtain ⟨its,r1,pl,_⟩ := I.list (SqL.of e0)
      exact SeqAt.RcAt.list_str _ _ pl.isList (by omega)
    | @tup m p' ys es e1 hl1 h1 =>
      cases ru
      cases rv
      obtain ⟨its,r1,pl,_⟩ := I.list (SqL.of e0)
      obtain ⟨jts,r2,pl',_⟩ := I.tuple (SqT.of e1)
      exact SeqAt.RcAt.list_tuple pl.isList pl' (by omega)
    | @lst m p' ys es e1 hl1 h1 =>
      cases ru
      cases rv
      obtain ⟨its,r1,pl,_⟩ := I.list (SqL.of e0)
      obtain ⟨jts,r2,pl',_⟩ := I.list (SqL.of e1)
      have g1 := r1.length
      have g2 := r2.length
      by_cases hz : ds.length = es.length
      · have y := SeqAt.RcAt.lists (A := A) (e := fun j => deq (ds.getD j .non) (es.getD j .non)) pl.isList pl'.isList (by rw [List.size_toArray,List.size_toArray]; omega) (by omega) (elts_at r1 r2 hl hl1 fun j x y d e u w a b c k ra rb => (h j x d a c).eqAt (h1 j y e b k) I ra rb (by show A.units + 1 + _ < cLine; omega))
        rw [List.size_toArray,← r1.length,hl,deqs_all' hz] at y
        exact y
      · rw [show deq (.lst ds) (.lst es) = false from deqs_len hz]
        exact SeqAt.RcAt.lists_lengths pl.isList pl'.isList (by rw [List.size_toArray,List.size_toArray]; simp; omega) (by omega)
theorem Rp.rcNeAt {A : Around} {n m : Nat} {x y : V} {d e : D} {u v : Value} (r : Rp H n x d) (q : Rp H m y e) (I : Inv X pins σ H s) (ru : RelV x u) (rv : RelV y v) (hu : A.units + n + 1 < cLine) : SeqAt.RcNeAt A s u v (!(deq d e)) := by
  cases r with
  | non =>
    cases q with
    | non =>
      cases ru
      cases rv
      exact SeqAt.RcNeAt.none_none
    | bl =>
      cases ru
      cases rv
      exact SeqAt.RcNeAt.none_bool _
    | int =>
      cases ru
      obtain ⟨_,rfl⟩ := rv
      exact SeqAt.RcNeAt.none_int _ _
    | str =>
      cases ru
      obtain ⟨_,rfl⟩ := rv
      exact SeqAt.RcNeAt.none_str _ _
    | @tup m p' ys es e1 hl1 h1 =>
      cases ru
      cases rv
      obtain ⟨jts,r2,pl',_⟩ := I.tuple (SqT.of e1)
      exact SeqAt.RcNeAt.none_tuple pl' (by omega)
    | @lst m p' ys es e1 hl1 h1 =>
      cases ru
      cases rv
      obtain ⟨jts,r2,pl',_⟩ := I.list (SqL.of e1)
      exact SeqAt.RcNeAt.none_list pl'.isList (by omega)
  | bl =>
    cases q with
    | non =>
      cases ru
      cases rv
      exact SeqAt.RcNeAt.bool_none _
    | bl =>
      cases ru
      cases rv
      exact SeqAt.RcNeAt.bool_bool _ _
    | int =>
      cases ru
      obtain ⟨_,rfl⟩ := rv
      exact SeqAt.RcNeAt.bool_int _ _ _
    | str =>
      cases ru
      obtain ⟨_,rfl⟩ := rv
      exact SeqAt.RcNeAt.bool_str _ _ _
    | @tup m p' ys es e1 hl1 h1 =>
      cases ru
      cases rv
      obtain ⟨jts,r2,pl',_⟩ := I.tuple (SqT.of e1)
      exact SeqAt.RcNeAt.bool_tuple _ pl' (by omega)
    | @lst m p' ys es e1 hl1 h1 =>
      cases ru
      cases rv
      obtain ⟨jts,r2,pl',_⟩ := I.list (SqL.of e1)
      exact SeqAt.RcNeAt.bool_list _ pl'.isList (by omega)
  | int =>
    cases q with
    | non =>
      obtain ⟨_,rfl⟩ := ru
      cases rv
      exact SeqAt.RcNeAt.int_none _ _
    | bl =>
      obtain ⟨_,rfl⟩ := ru
      cases rv
      exact SeqAt.RcNeAt.int_bool _ _ _
    | int =>
      obtain ⟨_,rfl⟩ := ru
      obtain ⟨_,rfl⟩ := rv
      exact SeqAt.RcNeAt.int_int _ _ _ _
    | str =>
      obtain ⟨_,rfl⟩ := ru
      obtain ⟨_,rfl⟩ := rv
      exact SeqAt.RcNeAt.int_str _ _ _ _
    | @tup m p' ys es e1 hl1 h1 =>
      obtain ⟨_,rfl⟩ := ru
      cases rv
      obtain ⟨jts,r2,pl',_⟩ := I.tuple (SqT.of e1)
      exact SeqAt.RcNeAt.int_tuple _ _ pl' (by omega)
    | @lst m p' ys es e1 hl1 h1 =>
      obtain ⟨_,rfl⟩ := ru
      cases rv
      obtain ⟨jts,r2,pl',_⟩ := I.list (SqL.of e1)
      exact SeqAt.RcNeAt.int_list _ _ pl'.isList (by omega)
  | str =>
    cases q with
    | non =>
      obtain ⟨_,rfl⟩ := ru
      cases rv
      exact SeqAt.RcNeAt.str_none _ _
    | bl =>
      obtain ⟨_,rfl⟩ := ru
      cases rv
      exact SeqAt.RcNeAt.str_bool _ _ _
    | int =>
      obtain ⟨_,rfl⟩ := ru
      obtain ⟨_,rfl⟩ := rv
      exact SeqAt.RcNeAt.str_int _ _ _ _
    | str =>
      obtain ⟨_,rfl⟩ := ru
      obtain ⟨_,rfl⟩ := rv
      exact SeqAt.RcNeAt.str_str _ _ _ _
    | @tup m p' ys es e1 hl1 h1 =>
      obtain ⟨_,rfl⟩ := ru
      cases rv
      obtain ⟨jts,r2,pl',_⟩ := I.tuple (SqT.of e1)
      exact SeqAt.RcNeAt.str_tuple _ _ pl' (by omega)
    | @lst m p' ys es e1 hl1 h1 =>
      obtain ⟨_,rfl⟩ := ru
      cases rv
      obtain ⟨jts,r2,pl',_⟩ := I.list (SqL.of e1)
      exact SeqAt.RcNeAt.str_list _ _ pl'.isList (by omega)
  | @tup n p xs ds e0 hl h =>
    cases q with
    | non =>
      cases ru
      cases rv
      obtain ⟨its,r1,pl,_⟩ := I.tuple (SqT.of e0)
      exact SeqAt.RcNeAt.tuple_none pl (by omega)
    | bl =>
      cases ru
      cases rv
      obtain ⟨its,r1,pl,_⟩ := I.tuple (SqT.of e0)
      exact SeqAt.RcNeAt.tuple_bool _ pl (by omega)
    | int =>
      cases ru
      obtain ⟨_,rfl⟩ := rv
      obtain ⟨its,r1,pl,_⟩ := I.tuple (SqT.of e0)
      exact SeqAt.RcNeAt.tuple_int _ _ pl (by omega)
    | str =>
      cases ru
      obtain ⟨_,rfl⟩ := rv
      obtain ⟨its,r1,pl,_⟩ := I.tuple (SqT.of e0)
      exact SeqAt.RcNeAt.tuple_str _ _ pl (by omega)
    | @tup m p' ys es e1 hl1 h1 =>
      cases ru
      cases rv
      obtain ⟨its,r1,pl,_⟩ := I.tuple (SqT.of e0)
      obtain ⟨jts,r2,pl',_⟩ := I.tuple (SqT.of e1)
      have y := SeqAt.RcNeAt.tuples (A := A) (e := fun j => deq (ds.getD j .non) (es.getD j .non)) pl pl' (by omega) (elts_at r1 r2 hl hl1 fun j x y d e u w a b c k ra rb => (h j x d a c).eqAt (h1 j y e b k) I ra rb (by show A.units + 1 + _ < cLine; omega))
      rw [List.size_toArray,List.size_toArray,← r1.length,← r2.length,hl,hl1,deqs_all] at y
      exact y
    | @lst m p' ys es e1 hl1 h1 =>
      cases ru
      cases rv
      obtain ⟨its,r1,pl,_⟩ := I.tuple (SqT.of e0)
      obtain ⟨jts,r2,pl',_⟩ := I.list (SqL.of e1)
      exact SeqAt.RcNeAt.tuple_list pl pl'.isList (by omega)
  | @lst n p xs ds e0 hl h =>
    cases q with
    | non =>
      cases ru
      cases rv
      obtain ⟨its,r1,pl,_⟩ := I.list (SqL.of e0)
      exact SeqAt.RcNeAt.list_none pl.isList (by omega)
    | bl =>
      cases ru
      cases rv
      obtain ⟨its,r1,pl,_⟩ := I.list (SqL.of e0)
      exact SeqAt.RcNeAt.list_bool _ pl.isList (by omega)
    | int =>
      cases ru
      obtain ⟨_,rfl⟩ := rv
      obtain ⟨its,r1,pl,_⟩ := I.list (SqL.of e0)
      exact SeqAt.RcNeAt.list_int _ _ pl.isList (by omega)
    | str =>
      cases ru
      obtain ⟨_,rfl⟩ := rv
      obtain ⟨its,r1,pl,_⟩ := I.list (SqL.of e0)
      exact SeqAt.RcNeAt.list_str _ _ pl.isList (by omega)
    | @tup m p' ys es e1 hl1 h1 =>
      cases ru
      cases rv
      obtain ⟨its,r1,pl,_⟩ := I.list (SqL.of e0)
      obtain ⟨jts,r2,pl',_⟩ := I.tuple (SqT.of e1)
      exact SeqAt.RcNeAt.list_tuple pl.isList pl' (by omega)
    | @lst m p' ys es e1 hl1 h1 =>
      cases ru
      cases rv
      obtain ⟨its,r1,pl,_⟩ := I.list (SqL.of e0)
      obtain ⟨jts,r2,pl',_⟩ := I.list (SqL.of e1)
      have g1 := r1.length
      have g2 := r2.length
      by_cases hz : ds.length = es.length
      · have y := SeqAt.RcNeAt.lists (A := A) (e := fun j => deq (ds.getD j .non) (es.getD j .non)) pl.isList pl'.isList (by rw [List.size_toArray,List.size_toArray]; omega) (by omega) (elts_at r1 r2 hl hl1 fun j x y d e u w a b c k ra rb => (h j x d a c).eqAt (h1 j y e b k) I ra rb (by show A.units + 1 + _ < cLine; omega))
        rw [List.size_toArray,← r1.length,hl,deqs_all' hz] at y
        exact y
      · rw [show deq (.lst ds) (.lst es) = false from deqs_len hz]
        exact SeqAt.RcNeAt.lists_lengths pl.isList pl'.isList (by rw [List.size_toArray,List.size_toArray]; simp; omega) (by omega)
end
section
variable {X : Cx}
def rEqD (neg : Bool) : R2 := fun x y H Q => ∃ d e,Rp H 9 x d ∧ Rp H 9 y e ∧ Q (.bl (if neg then !(deq d e) else deq d e)) H
theorem op_eqD (hu : X.A.units + 10 < cLine) : OpR X (compareOp .Eq) (rEqD false) := by
  intro pins s σ H x y v u Q I rx ry h
  obtain ⟨d,e,rd,re,k⟩ := h
  exact rd.rcAt re I rx ry (by omega) _ _ _ _ ⟨.bl _,H,I,rfl,k⟩
theorem op_neD (hu : X.A.units + 10 < cLine) : OpR X (compareOp .NotEq) (rEqD true) := by
  intro pins s σ H x y v u Q I rx ry h
  obtain ⟨d,e,rd,re,k⟩ := h
  exact rd.rcNeAt re I rx ry (by omega) _ _ _ _ ⟨.bl _,H,I,rfl,k⟩
end
section
variable {H : Hp} {n : Nat} {p : Addr} {x y z w : V} {a b c d : D}
theorem Rp.t2 (e : H p = some (.tup [x,y])) (ha : Rp H n x a) (hb : Rp H n y b) : Rp H (n + 1) (.ref p) (.tup [a,b]) := .tup e rfl fun j x d h k => by
  match j with
  | 0 => cases h; cases k; exact ha
  | 1 => cases h; cases k; exact hb
  | j + 2 => simp at h
theorem Rp.t4 (e : H p = some (.tup [x,y,z,w])) (ha : Rp H n x a) (hb : Rp H n y b) (hc : Rp H n z c) (hd : Rp H n w d) : Rp H (n + 1) (.ref p) (.tup [a,b,c,d]) := .tup e rfl fun j x d h k => by
  match j with
  | 0 => cases h; cases k; exact ha
  | 1 => cases h; cases k; exact hb
  | 2 => cases h; cases k; exact hc
  | 3 => cases h; cases k; exact hd
  | j + 4 => simp at h
theorem Rp.l0 (e : H p = some (.lst [])) : Rp H (n + 1) (.ref p) (.lst []) := .lst e rfl fun j x d h => by simp at h
mutual
theorem deq_self : ∀ d : D,deq d d = true
  | .non => rfl
  | .bl b => by simp [deq]
  | .int i => by simp [deq]
  | .str x => by simp [deq]
  | .tup ds => by simp only [deq]; exact deqs_same ds
  | .lst ds => by simp only [deq]; exact deqs_same ds
theorem deqs_same : ∀ ds : List D,deqs ds ds = true
  | [] => by simp [deqs]
  | d :: ds => by simp only [deqs,Bool.and_eq_true]; exact ⟨deq_self d,deqs_same ds⟩
end
end
end L2
namespace L2
open PySem PySem.Spec PyProof.Rows
section
variable {X : Cx} {scope : Scope} {cl : List (Str × Addr)} {xs : List Str} {fv : List (Str × Nat)} {elt iter tg : Expr} {ifs : List Expr} {pos : Pos} {te : TE} {tc : TT} {g : TG}
end
def retScopeAll (e : Expr) : Scope := match e with
  | .ListComp _ _ sc _ => sc
  | .Call _ [.ListComp _ _ sc _] _ _ => sc
  | _ => { kind := .function,names := [],isGenerator := false,isCoroutine := false }
end L2
namespace Dr
open PySem PySem.Spec L2 Mth Sp1 Sp2 Sp3 Sp7
def Pot (H : Hp) (p : Addr) (k : Int) : Prop := ∃ a b c : Int,H p = some (.lst [.int a,.int b,.int c]) ∧ 0 ≤ b ∧ b ≤ k ∧ 0 ≤ c ∧ c < 2147483647
def But (p : Addr) (H H' : Hp) : Prop := ∀ b o,b ≠ p → H b = some o → H' b = some o
theorem But.refl {p : Addr} {H : Hp} : But p H H := fun _ _ _ e => e
theorem But.trans {p : Addr} {H H1 H2 : Hp} (a : But p H H1) (b : But p H1 H2) : But p H H2 := fun c o n e => b c o n (a c o n e)
theorem But.of {p : Addr} {H H' : Hp} (s : Same H H') : But p H H' := fun c o _ e => s c o e
theorem But.same {p : Addr} {H0 H H' : Hp} (b : But p H H') (s : Same H0 H) (h : H0 p = none) : Same H0 H' := fun c o e => b c o (ne_of_none e h) (s c o e)
theorem Pot.mono {H : Hp} {p : Addr} {k k' : Int} (h : Pot H p k) (hk : k ≤ k') : Pot H p k' := by
  obtain ⟨a,b,c,e,h0,h1,h2,h3⟩ := h
  exact ⟨a,b,c,e,h0,by omega,h2,h3⟩
theorem Pot.same {H H' : Hp} {p : Addr} {k : Int} (h : Pot H p k) (s : Same H H') : Pot H' p k := by
  obtain ⟨a,b,c,e,h0⟩ := h
  exact ⟨a,b,c,s _ _ e,h0⟩
theorem But.t {p : Addr} {H H' : Hp} {k : Int} (b : But p H H') (h : Pot H p k) : SameT H H' := fun c xs e => by
  obtain ⟨x,y,z,ep,_⟩ := h
  exact b c _ (ne_of e ep (by intro z; cases z)) e
theorem Pot.ne {H : Hp} {p l : Addr} {k : Int} (h : Pot H p k) (hl : H l = none) : l ≠ p := fun z => by
  obtain ⟨x,y,w,ep,_⟩ := h
  subst z
  rw [hl] at ep
  cases ep
theorem But.none {p l : Addr} {H H' : Hp} (b : But p H H') (n : l ≠ p) (h : H' l = none) : H l = none := by
  cases e : H l with
  | none => rfl
  | some o =>
    rw [b l o n e] at h
    cases h
def spCell (K : PySem.W.Frag) : Sp := fun vs H Q _ => ∃ (sa : Addr) (ss : List Int) (k : Int),vs = [.ref sa,.int k] ∧ SqL K H sa (ss.map V.int) ∧ 0 ≤ k ∧ ∀ c : Int,Q (.int c) H
def spBegun : Sp := fun vs H Q _ => ∃ c : Int,vs = [.int c] ∧ ∀ (p : Addr) (H' : Hp),Same H H' → H p = none → Pot H' p 0 → Q (.ref p) H'
def spTk : Sp := fun vs H Q _ => ∃ (p : Addr) (m k : Int),vs = [.ref p,.int m] ∧ Pot H p k ∧ k ≤ 1000000 ∧ (0 < m ∧ bits m ≤ 8000) ∧ ∀ (r : Int) (H' : Hp),0 ≤ r → r < m → But p H H' → Pot H' p (k + 1) → Q (.int r) H'
def spWd : Sp := fun vs H Q _ => ∃ (p : Addr) (m k : Int),vs = [.ref p,.int m] ∧ Pot H p k ∧ k ≤ 900000 ∧ (0 < m ∧ bits m ≤ 8000) ∧ ∀ (r : Int) (H' : Hp),0 ≤ r → r < m → But p H H' → Pot H' p (k + 4) → Q (.int r) H'
def spDLine : Sp := fun vs H Q _ => ∃ (p : Addr) (k : Int),vs = [.ref p] ∧ Pot H p k ∧ k ≤ 800000 ∧ ∀ (l : Addr) (qs : Crn) (H' : Hp),LineM H' l qs → 1 ≤ qs.length → qs.length ≤ 10 → H l = none → But p H H' → Pot H' p (k + 100) → Q (.ref l) H'
def spMoved : Sp := fun vs H Q _ => ∃ (p : Addr) (n k : Int),vs = [.ref p,.int n] ∧ Pot H p k ∧ k ≤ 900000 ∧ ∀ (r : Int) (H' : Hp),Sm r → But p H H' → Pot H' p (k + 1) → Q (.int r) H'
def spOther : Sp := fun vs H Q _ => ∃ (p l : Addr) (qs : Crn) (k : Int),vs = [.ref p,.ref l] ∧ Pot H p k ∧ k ≤ 700000 ∧ LineM H l qs ∧ (1 ≤ qs.length ∧ qs.length ≤ 10) ∧ ∀ (r : Addr) (rs : Crn) (H' : Hp),LineM H' r rs → 1 ≤ rs.length → rs.length ≤ 10 → H r = none → But p H H' → Q (.ref r) H'
def spLines (K : PySem.W.Frag) : Sp := fun vs H Q _ => ∃ (sa : Addr) (ss : List Int),vs = [.ref sa] ∧ SqL K H sa (ss.map V.int) ∧ ∀ (t l r : Addr) (qs rs : Crn) (H' : Hp),Same H H' → H' t = some (.tup [.ref l,.ref r]) → LineM H' l qs → (1 ≤ qs.length ∧ qs.length ≤ 10) → LineM H' r rs → (1 ≤ rs.length ∧ rs.length ≤ 10) → H l = none → H r = none → l ≠ r → Q (.ref t) H'
theorem _root_.Sp7.LineM.but {p l : Addr} {H H' : Hp} {qs : Crn} {k : Int} (L : LineM H l qs) (b : But p H H') (h : Pot H p k) (n : l ≠ p) : LineM H' l qs := ⟨b l _ n L.lst,fun q hq => ⟨b.t h _ _ (L.crn q hq).1,(L.crn q hq).2⟩⟩
end Dr
namespace Dr
open PySem PySem.Spec L2 Mth Sp1 Sp2 Sp3 Sp7
theorem ixN_of {n : Nat} {i : Int} (h0 : 0 ≤ i) (h1 : i < (n : Int)) : ixN n i = some i.toNat := by
  unfold ixN
  rw [if_pos h0,if_pos h1]
theorem menuI {K : PySem.W.Frag} {H : Hp} {l : Addr} {xs : List V} {i : Int} {Q : VK} (C : Int → Prop) (e : H l = some (.lst xs)) (h0 : 0 ≤ i) (h1 : i < (xs.length : Int)) (hC : ∀ v ∈ xs,∃ m,v = .int m ∧ C m) (h : ∀ m,C m → Q (.int m) H) : rIxL K (.ref l) (.int i) H Q :=
  menu e h0 h1 fun v hv => by
    obtain ⟨m,rfl,hc⟩ := hC v hv
    exact h m hc
theorem at_crn {qs : Crn} {k : Int} (h0 : 0 ≤ k) (h1 : k < (qs.length : Int)) : ∃ q,qs[k.toNat]? = some q ∧ atI (qs.map fun (q : Addr × Int × Int) => V.ref q.1) k = some (.ref q.1) := by
  have hk : k.toNat < qs.length := by omega
  refine ⟨qs[k.toNat],List.getElem?_eq_getElem hk,?_⟩
  have := atI_nat (xs := qs.map fun (q : Addr × Int × Int) => V.ref q.1) (j := k.toNat) (v := .ref qs[k.toNat].1) (by rw [List.getElem?_map,List.getElem?_eq_getElem hk]; rfl)
  rw [show ((k.toNat : Nat) : Int) = k by omega] at this
  exact this
def ifBody (s : Stmt) : Stmt := match s with
  | .If _ (b :: _) _ _ => b
  | _ => .Pass ⟨0,0,0,0⟩
def retExpr (s : Stmt) : Expr := match s with
  | .Return (some e) _ => e
  | .Assign _ e _ => e
  | .If e _ _ _ => e
  | _ => .Name "" ⟨0,0,0,0⟩
end Dr
namespace Dr
open PySem
def compScope (e : Expr) : Scope := match e with
  | .ListComp _ _ sc _ => sc
  | .Call _ [.ListComp _ _ sc _] _ _ => sc
  | _ => { kind := .function,names := [],isGenerator := false,isCoroutine := false }
end Dr
namespace PySem
namespace F
theorem lri_no_len : typeLookup (.type "list_reverseiterator") (Str.ofString "__len__") = pure none := by rw [typeLookup_type,builtinLookup_eq_fast]; kernel_rfl
theorem lri_hint : typeLookup (.type "list_reverseiterator") (Str.ofString "__length_hint__") = pure (some (.builtin "list_reverseiterator.__length_hint__")) := by rw [typeLookup_type,builtinLookup_eq_fast]; kernel_rfl
end F
section
variable {prog : Program} {w : World} {A : Around} {E : Value → Shared → Prop} {s : Shared}
theorem wpAny_hint_rev {it : Addr} {Q : Bool → Shared → Prop} (hT : s.TypeIs (.ref it) "list_reverseiterator") (h : Q false s) : wpAny (model prog w) A (Builtin.List.listLengthHint (.ref it)) Q E s := by
  unfold Builtin.List.listLengthHint
  refine wpAny_bind (wpAny_specialOf hT F.lri_no_len ?_)
  show wpAny _ A (specialOf (Value.ref it) (Str.ofString "__length_hint__") >>= _) _ _ _
  refine wpAny_bind (wpAny_specialOf hT F.lri_hint ?_)
  generalize hid : ("list_reverseiterator.__length_hint__" : String) = id0
  wp_delta
  rw [show splitId id0 = some ("list_reverseiterator","__length_hint__") from by subst hid; decide +kernel]
  subst hid
  refine wpAny_bind (wpAny_isInstance (T := "list_reverseiterator") (b := true) hT (by rw [isSubtype_type]; kernel_rfl) ?_)
  refine wpAny_ite_split (fun hab => absurd hab (by decide)) (fun _ => ?_)
  refine wpAny_ite_split (fun _ => ?_) (fun hab => absurd (by decide +kernel) hab)
  refine wpAny_ite_split (fun hab => absurd hab (by decide +kernel)) (fun _ => ?_)
  exact wpAny_pure h
theorem wpAny_extend_rev {R : Result → Shared → Prop} {it l : Addr} {items : Array Value} (hh : A.handled = none) (hit : s.heap.IsRevIter it l ((items.size : Int) - 1)) (hl : s.heap.IsList l items) (hne : l ≠ it) (hn : items.size ≤ sizeLine) (S : Addr) (res : Value) (c₀ : Nat) (hSi : S ≠ it) (hSl : S ≠ l)
    (hS : s.heap.get? S = some { cls := .type "list",data := .seq #[] c₀ })
    (hR : ∀ h' tk acc' c',(∀ b o,b ≠ S → b ≠ it → s.heap.get? b = some o → h'.get? b = some o) → h'.get? S = some { cls := .type "list",dict := none,data := .seq acc' c',slots := #[] } →
      ItemsOf (fun i v => items[items.size - 1 - i]? = some v) acc' items.size → R (.ok (.ret res)) { s with heap := h',toks := tk }) :
    wpAny (model prog w) A.in1 (Builtin.List.listExtendWith (.ref S) (.ref it) res)
      (fun fin s' => match fin with | .done f => R (.ok f) s' | .again c' => c'.quiet = true ∧ codeAny (model prog w) A c' R s') (fun e s' => R (.error e) s') s := by
  have W := (Walks.listRev (prog := prog) (w := w) (A := A.in1) hh it l hne items).toS
  have hSf : S ∉ [it,l] := fun hm => by
    simp only [List.mem_cons,List.not_mem_nil,or_false] at hm
    rcases hm with e | e
    · exact hSi e
    · exact hSl e
  unfold Builtin.List.listExtendWith
  refine wpAny_bind (wpAny_typeOf hit.typeIs ?_)
  have h1 : Builtin.List.listSameRef (.ref S) (.ref it) = false := by simp [Builtin.List.listSameRef,hSi]
  have h2 : (Value.type "list_reverseiterator" == Value.type "list") = false := by decide
  have h3 : (Value.type "list_reverseiterator" == Value.type "tuple") = false := by decide
  simp only [h1,h2,h3,Bool.or_false,Bool.false_eq_true,if_false]
  refine wpAny_bind (wpAny_pyIter_revIter hit ?_)
  refine wpAny_bind (wpAny_holding (wpAny_hint_rev hit.typeIs ?_))
  refine wpAny_ite_split (fun hab => absurd hab (by decide +kernel)) (fun _ => ?_)
  refine wpAny_pure ⟨plainId_quiet F.plain_extend_loop _,codeAny_extend_loopS W hn S hSf res items.size 0 s #[] c₀ rfl (Nat.zero_le _) ⟨Nat.zero_le _,by simpa using hit,hl⟩ hS (ItemsOf.nil _) fun s' acc' c' hm hS' hacc => ?_⟩
  rw [Moved.eq_with hm]
  refine hR s'.heap s'.toks acc' c' (fun b o hb hi e => hm.heap b o (fun hmem => ?_) e) hS' hacc
  rcases List.mem_cons.mp hmem with e' | hmem
  · exact hb e'
  · exact hi (List.mem_singleton.mp hmem)
theorem call_list_rev {Q : Value → Shared → Prop} {it l : Addr} {items : Array Value} (hh : A.handled = none) (hit : s.heap.IsRevIter it l ((items.size : Int) - 1)) (hl : s.heap.IsList l items) (hne : l ≠ it) (hn : items.size ≤ sizeLine)
    (hQ : ∀ h' tk acc' c',(∀ b o,b ≠ it → s.heap.get? b = some o → h'.get? b = some o) →
      h'.get? s.heap.objs.size = some { cls := .type "list",dict := none,data := .seq acc' c',slots := #[] } → ItemsOf (fun i v => items[items.size - 1 - i]? = some v) acc' items.size → Q (.ref s.heap.objs.size) { s with heap := h',toks := tk }) :
    wpAny (model prog w) A (call (.type "list") [.ref it]) Q E s := by
  obtain ⟨oi,hoi,_⟩ := id hit
  obtain ⟨ol,hol,_⟩ := id hl
  have hi := Heap.lt_size hoi
  have hll := Heap.lt_size hol
  refine callType_codes (Q₁ := fun obj s₁ => obj = .ref s.heap.objs.size ∧ s₁ = { s with heap := s.heap.push { cls := .type "list",data := .seq #[] } }) F.called_list (F.typeCall_list_1 _) F.entry_list_init
    (code_list_new _ ⟨rfl,rfl⟩) fun obj s₁ h₁ => ?_
  obtain ⟨rfl,rfl⟩ := h₁
  have hS : (s.heap.push { cls := .type "list",data := .seq #[] }).get? s.heap.objs.size = some { cls := .type "list",data := .seq #[] } := Heap.get?_push_size _ rfl
  refine ⟨⟨_,hS,rfl⟩,F.args_list_init_2 _ _,?_⟩
  show wpAny _ _ (do let old ← Builtin.List.listItems (.ref s.heap.objs.size); Builtin.List.listUpdate (.ref s.heap.objs.size) (fun _ => #[]); letGo old.toList.reverse; Builtin.List.listExtendWith (.ref s.heap.objs.size) (.ref it) .none) _ _ _
  refine wpAny_bind ?_
  unfold Builtin.List.listItems
  refine wpAny_bind (wpAny_seqItems hS rfl (wpAny_pure ?_))
  show wpAny _ _ (updateSeq s.heap.objs.size (fun _ => #[]) >>= fun _ => letGo (#[] : Array Value).toList.reverse >>= fun _ => Builtin.List.listExtendWith (.ref s.heap.objs.size) (.ref it) .none) _ _ _
  refine wpAny_bind (wpAny_updateSeq hS rfl ?_)
  have hS₂ := Heap.get?_update_self (Obj.mapSeq (fun _ => (#[] : Array Value))) hS rfl
  have oth : ∀ b o,b ≠ s.heap.objs.size → s.heap.get? b = some o → ((s.heap.push { cls := .type "list",data := .seq #[] }).update s.heap.objs.size (Obj.mapSeq (fun _ => (#[] : Array Value)))).get? b = some o :=
    fun b o hb e => (Heap.get?_update_other _ _ (Ne.symm hb)).trans (Heap.get?_push_of_some _ e)
  refine wpAny_bind (wpAny_letGo ?_)
  refine wpAny_extend_rev (A := A.in1) hh (hit.at fun o e => oth it o (Nat.ne_of_lt hi) e) (hl.at fun o e => oth l o (Nat.ne_of_lt hll) e) hne hn _ .none _ (Nat.ne_of_gt hi) (Nat.ne_of_gt hll) hS₂ fun h' tk acc' c' hk hS' hacc => ?_
  exact ⟨rfl,hQ h' tk acc' c' (fun b o hb e => hk b o (Nat.ne_of_lt (Heap.lt_size e)) hb (oth b o (Nat.ne_of_lt (Heap.lt_size e)) e)) hS' hacc⟩
end
end PySem
namespace L2
open PySem PySem.Spec PyProof.Rows
section
variable {X : Cx} {e : Expr} {te : TE} {p1 p2 q1 q2 : Pos}
theorem bt_reversed : bootBuiltins "reversed" = some (.type "reversed") := by decide +kernel
def tListRev (K : PySem.W.Frag) (te : TE) : TE := fun σ H Q => te σ H fun x H1 => ∃ a xs,[x] = [.ref a] ∧ SqL K H1 a xs ∧ ∀ l H2,Same H1 H2 → H2 l = some (.lst xs.reverse) → H1 l = none → Q (.ref l) H2
theorem pe_list_rev (hcalm : X.calm = true) (gl : Gl X "list") (ml : X.mg "list" = none) (gr : Gl X "reversed") (mr : X.mg "reversed" = none) (he : PE X e te)
    (h1 : starEach [.Call (.Name "reversed" p1) [e] [] q1] X.env = [(false,eval (.Call (.Name "reversed" p1) [e] [] q1) X.env)] := by rfl) (h2 : starEach [e] X.env = [(false,eval e X.env)] := by rfl) :
    PE X (.Call (.Name "list" p2) [.Call (.Name "reversed" p1) [e] [] q1] [] q2) (tListRev X.K te) := by
  intro pins s σ H Q I h
  have h' : (tCons te tNil) σ H (fun vs H1 => ∃ a xs,vs = [.ref a] ∧ SqL X.K H1 a xs ∧ ∀ l H2,Same H1 H2 → H2 l = some (.lst xs.reverse) → H1 l = none → Q (.ref l) H2) := h
  have inner : wpAny (model X.prog X.w) X.A (eval (.Call (.Name "reversed" p1) [e] [] q1) X.env) (fun u s1 => ∃ (it a : Addr) (xs : List V) (its : List Value) (H1 : Hp),u = .ref it ∧ Inv X pins σ H1 s1 ∧ Vals xs its ∧ s1.heap.IsList a its.toArray ∧ xs.length ≤ sizeLine ∧ a ≠ it ∧ FpOk X pins H1 it ∧ s1.heap.IsRevIter it a ((its.toArray.size : Int) - 1) ∧
      ∀ l H2,Same H1 H2 → H2 l = some (.lst xs.reverse) → H1 l = none → Q (.ref l) H2) X.xe s := by
    refine wpAny_Call_Name_kw (ld_blt I gr mr bt_reversed (PyProof.Rows.callWith_type1 (thn ((pa_cons he pa_nil h2) q1 pins s σ H (fun vs H1 => ∃ a xs,vs = [.ref a] ∧ SqL X.K H1 a xs ∧ ∀ l H2,Same H1 H2 → H2 l = some (.lst xs.reverse) → H1 l = none → Q (.ref l) H2) I ?_) fun us s1 ⟨vs,H1,I1,r1,q⟩ => ?_) h2 rfl))
    · exact h'
    · obtain ⟨a,xs,rfl,hx,k⟩ := q
      obtain ⟨u,rfl,ru⟩ := vals1 r1
      cases ru
      obtain ⟨its,rv,pl,hz⟩ := I1.list hx
      refine call_reversed_list pl.isList ?_
      have al : a < s1.heap.objs.size := by obtain ⟨_,e,_⟩ := pl.isList; exact Heap.lt_size e
      have kp : ∀ b o,s1.heap.get? b = some o → (s1.heap.push (revObj a ((its.toArray.size : Int) - 1))).get? b = some o := fun b o e => Heap.get?_push_of_some _ e
      exact ⟨_,a,xs,its,H1,rfl,I1.kept (t' := s1.toks) kp,rv,pl.isList.at fun o e => kp _ o e,hz,Nat.ne_of_lt al,I1.fpOk (Nat.le_refl _) (I1.hok.fresh (Nat.le_refl _)),⟨_,Heap.get?_push_size _ rfl,rfl,rfl⟩,k⟩
  refine wpAny_Call_Name_kw (ld_blt I gl ml bt_list (PyProof.Rows.callWith_type1 ?_ h1 rfl))
  rw [h1]
  refine Calls.spliced_cons (thn inner fun u s1 ⟨it,a,xs,its,H1,eu,I1,rv,hl,hz,hne,fp,hrev,k⟩ => ?_)
  subst eu
  refine Calls.spliced_nil ?_
  have hlen := rv.length
  refine call_list_rev (I.ok.hd hcalm) hrev hl hne (by rw [List.size_toArray]; omega) fun h' tk acc' c' hk hS hacc => ?_
  obtain ⟨f0,f1,f2,f3,f4,f5⟩ := fp
  have hfr : H1 s1.heap.objs.size = none := I1.hok.fresh (Nat.le_refl _)
  have J1 : Inv X pins σ H1 { s1 with heap := h',toks := tk } := I1.turned (fun b o hb e => hk b o hb e) f0 f1 f3 f4 f5
  have hv : Vals xs.reverse acc'.toList := by
    have e : acc' = its.reverse.toArray := by
      obtain ⟨h3,h4⟩ := hacc
      refine Array.ext ?_ fun j hj1 hj2 => ?_
      · rw [h3]; simp
      · have z := h4 j _ (Array.getElem?_eq_getElem hj1)
        rw [List.size_toArray] at z
        have hj : j < its.length := by simpa using hj2
        have z' : its[its.length - 1 - j]? = some acc'[j] := by simpa using z
        have y : its.reverse[j]? = its[its.length - 1 - j]? := by rw [List.getElem?_reverse hj]
        rw [z'] at y
        have y2 : its.reverse.toArray[j]? = some acc'[j] := by simpa using y
        rw [Array.getElem?_eq_getElem hj2] at y2
        exact (Option.some.inj y2).symm
    rw [e]
    exact rv.reverse
  have hn : X.s₀.heap.get? s1.heap.objs.size = none := by
    cases e : X.s₀.heap.get? s1.heap.objs.size with
    | none => rfl
    | some o => exact absurd (Nat.lt_of_lt_of_le (Heap.lt_size e) I1.sz) (Nat.lt_irrefl _)
  obtain ⟨g0,g1,g2,g3,g4,g5⟩ := I1.fpOk (H' := H1) (Nat.le_refl _) hfr
  have J2 := J1.track (o := .lst xs.reverse) hfr hn g1 g4 g5 ⟨by rw [List.length_reverse]; exact hz,acc'.toList,c',hv,by simpa using hS⟩
  exact ⟨.ref s1.heap.objs.size,_,J2,rfl,k _ _ (Same.new hfr) upd_same hfr⟩
end
section
variable {X : Cx}
def rPopAtA : V → List V → Hp → VK → Prop := fun x vs H Q => ∃ l xs i k y,x = .ref l ∧ vs = [.int i] ∧ H l = some (.lst xs) ∧ -(2 ^ 63) ≤ i ∧ i < 2 ^ 63 ∧ seqIndex? i xs.length = some k ∧ xs[k]? = some y ∧ ∀ H',Upd H H' l xs (xs.eraseIdx k) → Q y H'
theorem mt_popAtA : MtM X "list.pop" rPopAtA := fun pins s σ H x xs v us Q I rx rs ⟨l,ys,i,k,y,e1,e2,h,b1,b2,hk,hy,q⟩ =>
  mt_popAt pins s σ H x xs v us Q I rx rs ⟨l,ys,i,k,y,e1,e2,h,b1,b2,hk,hy,q _ (.mk' h)⟩
def rInsA : V → List V → Hp → VK → Prop := fun x vs H Q => ∃ (l : Addr) (xs : List V) (i : Int) (y : V),x = .ref l ∧ vs = [.int i,y] ∧ H l = some (.lst xs) ∧ (0 ≤ i ∧ i ≤ (xs.length : Int)) ∧ xs.length < 1000 ∧ ∀ H',Upd H H' l xs (xs.take i.toNat ++ [y] ++ xs.drop i.toNat) → Q .non H'
theorem ins_eq {its : List Value} {u2 : Value} {i : Int} (h0 : 0 ≤ i) (h1 : i ≤ (its.length : Int)) : (fun xs : Array Value => have k := if i < 0 then (i + (xs.size : Int)).toNat else min i.toNat xs.size; (xs.extract 0 k).push u2 ++ xs.extract k) its.toArray = (its.take i.toNat ++ [u2] ++ its.drop i.toNat).toArray := by
  have hmin : min i.toNat its.toArray.size = i.toNat := by rw [List.size_toArray]; omega
  dsimp only
  rw [if_neg (by omega),hmin]
  simp
  exact List.take_of_length_le (by rw [List.length_drop]; exact Nat.le_refl _)
theorem mt_insA : MtM X "list.insert" rInsA := by
  intro pins s σ H x vs v us Q I rx rv h
  obtain ⟨l,xs,i,y,rfl,rfl,hH,⟨h0,h1⟩,hz,q⟩ := h
  cases rx
  obtain ⟨u1,u2,rfl,r1,r2⟩ := vals2 rv
  obtain ⟨t,rfl⟩ := r1
  obtain ⟨z,its,n,r,hl,e⟩ := I.lstM hH
  have hsz : its.toArray.size ≤ sizeLine := by rw [List.size_toArray]; exact Sp1.sz (by omega)
  have e63 : (2 : Int) ^ 63 = 9223372036854775808 := by decide
  have b1 : -(2 ^ 63) ≤ i := by rw [e63]; omega
  have b2 : i < 2 ^ 63 := by rw [e63]; omega
  have hfit : ¬ (!Builtin.List.listFitsIndex i) = true := by
    rw [fitsIndex_both b1 b2]
    exact Bool.false_ne_true
  have hf := ins_eq (its := its) (u2 := u2) h0 (by omega)
  clear b1 b2 e63
  refine call_meets F.slot_list_insert ⟨_,e,rfl⟩ F.entry_list_insert (F.args_list_insert_3 _ _ _) (AutoSeq1.list_insert_list_int_val_1 l its.toArray n i t u2 hfit hsz) ⟨e,?_⟩
  refine ⟨.non,_,I.lset (its' := its.take i.toNat ++ [u2] ++ its.drop i.toNat) (ys := xs.take i.toNat ++ [y] ++ xs.drop i.toNat) hH e hf (((r.take i.toNat).append (.cons r2 .nil)).append (r.drop i.toNat)) ?_,rfl,q _ (.mk' hH)⟩
  refine Sp1.sz ?_
  simp only [List.length_append,List.length_take,List.length_drop,List.length_cons,List.length_nil]
  omega
end
end L2
namespace Wk
open PySem PySem.Spec L2 Mth Sp1 Sp2 Sp3 Sp7 Dr
structure Pr where
  p : Addr
  x : Addr
  y : Addr
  a : Int
  b : Int
  c : Int
  d : Int
structure PrAt (H : Hp) (q : Pr) : Prop where
  p_ : H q.p = some (.tup [.ref q.x,.ref q.y])
  x_ : H q.x = some (.tup [.int q.a,.int q.b])
  y_ : H q.y = some (.tup [.int q.c,.int q.d])
  lx : Low q.a q.b
  ly : Low q.c q.d
  nx : 0 ≤ q.a
  ny : 0 ≤ q.c
  ba : bits q.a ≤ 200
  bb : bits q.b ≤ 60
  bc : bits q.c ≤ 200
  bd : bits q.d ≤ 60
theorem PrAt.t {H H' : Hp} {q : Pr} (h : PrAt H q) (s : SameT H H') : PrAt H' q := ⟨s _ _ h.p_,s _ _ h.x_,s _ _ h.y_,h.lx,h.ly,h.nx,h.ny,h.ba,h.bb,h.bc,h.bd⟩
theorem PrAt.sx {H : Hp} {q : Pr} (h : PrAt H q) : Small q.a q.b := ⟨h.lx.pos,bits_le h.ba (by decide),bits_le h.bb (by decide)⟩
theorem PrAt.sy {H : Hp} {q : Pr} (h : PrAt H q) : Small q.c q.d := ⟨h.ly.pos,bits_le h.bc (by decide),bits_le h.bd (by decide)⟩
def prs (ps : List Pr) : List V := ps.map fun q => V.ref q.p
structure PairsAt (H : Hp) (l : Addr) (ps : List Pr) : Prop where
  lst : H l = some (.lst (prs ps))
  pr : ∀ q ∈ ps,PrAt H q
theorem PairsAt.mono {H H' : Hp} {l : Addr} {ps : List Pr} (h : PairsAt H l ps) (s : Same H H') : PairsAt H' l ps := ⟨s _ _ h.lst,fun q hq => (h.pr q hq).t s.t⟩
theorem prs_len (ps : List Pr) : (prs ps).length = ps.length := List.length_map _
theorem prs_get {ps : List Pr} {i : Nat} {v : V} (h : (prs ps)[i]? = some v) : ∃ q,ps[i]? = some q ∧ v = .ref q.p := by
  unfold prs at h
  rw [List.getElem?_map] at h
  obtain ⟨q,hq,rfl⟩ := Option.map_eq_some_iff.mp h
  exact ⟨q,hq,rfl⟩
def wHops : Str := "hops"
def wFree : Str := "free"
def wPart : Str := "part"
def wOn : Str := "on"
def goB (way : Str) (a b c d : Int) : Bool :=
  if way = wHops then (decide (b = 1) && (decide (d = 1) && (decide (c - a = 0) || decide (c - a = 1))))
  else if way = wFree then shareB a b c d
  else (!decide (c * b < a * d)) && shareB a b c d
def stepB (way : Str) (u v : Pr) : Bool := goB way u.a u.b v.a v.b && goB way u.c u.d v.c v.d
def stepsB (way : Str) : List Pr → Bool
  | u :: v :: r => stepB way u v && stepsB way (v :: r)
  | _ => true
def isP (a b n : Int) : Bool := decide (a = n) && decide (b = 1)
def endsB (n m : Int) (way : Str) (f l : Pr) : Bool :=
  if isP f.a f.b 0 && isP l.a l.b n then (if way = wPart then true else isP f.c f.d 0 && isP l.c l.d m) else false
def inB (n m : Int) (q : Pr) : Bool := (decide (q.a ≤ n * q.b)) && (decide (q.c ≤ m * q.d))
def walkB (n m : Int) (way : Str) (ps : List Pr) : Bool :=
  match ps with
  | [] => false
  | f :: r => (f :: r).all (inB n m) && (endsB n m way f ((f :: r).getLast (by simp)) && stepsB way (f :: r))
theorem walkB_cons (n m : Int) (way : Str) (f : Pr) (r : List Pr) : walkB n m way (f :: r) = ((f :: r).all (inB n m) && (endsB n m way f ((f :: r).getLast (by simp)) && stepsB way (f :: r))) := rfl
def pairV (n m : Int) (H : Hp) : V → Bool
  | .ref p => match H p with
    | some (.tup [x,y]) => placeV n H x && placeV m H y
    | _ => false
  | _ => false
def pairsV (n m : Int) (H : Hp) : V → Bool
  | .ref p => match H p with
    | some (.lst xs) => !xs.isEmpty && xs.all (pairV n m H)
    | _ => false
  | _ => false
structure PTh (H : Hp) (v : V) : Prop where
  kn : ∃ t,Kn H v t
  parts : ∀ p xs,v = .ref p → H p = some (.tup xs) → ∀ y ∈ xs,Thing H y ∧ ∀ q a b,y = .ref q → H q = some (.tup [.int a,.int b]) → bits a ≤ 200 ∧ bits b ≤ 60
structure PsTh (H : Hp) (v : V) : Prop where
  kn : ∃ t,Kn H v t
  parts : ∀ p xs,v = .ref p → H p = some (.lst xs) → xs.length < 900 ∧ ∀ y ∈ xs,PTh H y
def spPair : Sp := fun vs H Q _ => ∃ (l1 l2 : Addr) (xs1 xs2 : List V) (v : V),vs = [.ref l1,.ref l2,v] ∧ (H l1 = some (.lst xs1) ∧ xs1.length ≤ 100) ∧ (H l2 = some (.lst xs2) ∧ xs2.length ≤ 100) ∧ PTh H v ∧ Q (.bl (pairV ((xs1.length : Int) - 1) ((xs2.length : Int) - 1) H v)) H
def spPairs : Sp := fun vs H Q _ => ∃ (l1 l2 : Addr) (xs1 xs2 : List V) (v : V),vs = [.ref l1,.ref l2,v] ∧ (H l1 = some (.lst xs1) ∧ xs1.length ≤ 100) ∧ (H l2 = some (.lst xs2) ∧ xs2.length ≤ 100) ∧ PsTh H v ∧ ∀ H',Same H H' → Q (.bl (pairsV ((xs1.length : Int) - 1) ((xs2.length : Int) - 1) H v)) H'
theorem kn_back {H H' : Hp} {p : Addr} {t : String} {o : HO} (k : Kn H (.ref p) t) (s : Same H H') (e : H' p = some o) : H p = some o := by
  cases k with
  | lst e1 => rw [s _ _ e1] at e; rw [e1]; exact e
  | tup e1 => rw [s _ _ e1] at e; rw [e1]; exact e
  | dict e1 => rw [s _ _ e1] at e; rw [e1]; exact e
theorem PTh.mono {H H' : Hp} {v : V} (h : PTh H v) (s : Same H H') : PTh H' v := by
  obtain ⟨⟨t,k⟩,pt⟩ := h
  refine ⟨⟨t,k.mono s⟩,fun p xs e1 e2 y hy => ?_⟩
  subst e1
  obtain ⟨th,bd⟩ := pt p xs rfl (kn_back k s e2) y hy
  refine ⟨Thing.mono th s,fun q a b e3 e4 => ?_⟩
  subst e3
  obtain ⟨t2,k2⟩ := th.kn
  exact bd q a b rfl (kn_back k2 s e4)
theorem placeV_same {n : Int} {H H' : Hp} {v : V} (h : Thing H v) (s : Same H H') : placeV n H' v = placeV n H v := by
  obtain ⟨t,k⟩ := h.kn
  cases k with
  | non => rfl
  | bl b => rfl
  | int i => rfl
  | str x => rfl
  | lst e => simp only [placeV,e,s _ _ e]
  | tup e => simp only [placeV,e,s _ _ e]
  | dict e => simp only [placeV,e,s _ _ e]
theorem pairV_tup {n m : Int} {H : Hp} {p : Addr} {x y : V} (e : H p = some (.tup [x,y])) : pairV n m H (.ref p) = (placeV n H x && placeV m H y) := by simp only [pairV,e]
theorem pairV_same {n m : Int} {H H' : Hp} {v : V} (h : PTh H v) (s : Same H H') : pairV n m H' v = pairV n m H v := by
  obtain ⟨⟨t,k⟩,pt⟩ := h
  cases k with
  | non => rfl
  | bl b => rfl
  | int i => rfl
  | str x => rfl
  | lst e => simp only [pairV,e,s _ _ e]
  | dict e => simp only [pairV,e,s _ _ e]
  | @tup p xs e =>
    match xs,e with
    | [],e => simp only [pairV,e,s _ _ e]
    | [x],e => simp only [pairV,e,s _ _ e]
    | [x,y],e =>
      rw [pairV_tup e,pairV_tup (s _ _ e),placeV_same (pt _ _ rfl e x (by simp)).1 s,placeV_same (pt _ _ rfl e y (by simp)).1 s]
    | x :: y :: z :: r,e => simp only [pairV,e,s _ _ e]
theorem pairV_inv {n m : Int} {H : Hp} {v : V} (h : PTh H v) (hv : pairV n m H v = true) : ∃ q : Pr,v = .ref q.p ∧ PrAt H q ∧ inB n m q = true := by
  unfold pairV at hv
  split at hv
  · split at hv
    · rename_i p _ x y e
      rw [Bool.and_eq_true] at hv
      obtain ⟨p1,a,b,rfl,e1,lw1,n1,r1⟩ := placeV_inv hv.1
      obtain ⟨p2,c,d,rfl,e2,lw2,n2,r2⟩ := placeV_inv hv.2
      have b1 := (h.parts p _ rfl e (.ref p1) (by simp)).2 p1 a b rfl e1
      have b2 := (h.parts p _ rfl e (.ref p2) (by simp)).2 p2 c d rfl e2
      refine ⟨⟨p,p1,p2,a,b,c,d⟩,rfl,⟨e,e1,e2,lw1,lw2,n1,n2,b1.1,b1.2,b2.1,b2.2⟩,?_⟩
      unfold inB
      rw [Bool.and_eq_true,decide_eq_true_eq,decide_eq_true_eq]
      exact ⟨r1,r2⟩
    · cases hv
  · cases hv
theorem pairsV_lst {n m : Int} {H : Hp} {p : Addr} {xs : List V} (e : H p = some (.lst xs)) : pairsV n m H (.ref p) = (!xs.isEmpty && xs.all (pairV n m H)) := by simp only [pairsV,e]
theorem pairsV_inv {n m : Int} {H : Hp} {v : V} (h : PsTh H v) (hv : pairsV n m H v = true) : ∃ (l : Addr) (ps : List Pr),v = .ref l ∧ PairsAt H l ps ∧ ps ≠ [] ∧ ps.all (inB n m) = true ∧ ps.length < 900 := by
  have hv0 := hv
  unfold pairsV at hv
  split at hv
  · split at hv
    · rename_i p _ xs e
      rw [Bool.and_eq_true] at hv
      obtain ⟨hl,hy⟩ := h.parts p xs rfl e
      have ch : ∀ xs : List V,(∀ y ∈ xs,PTh H y) → xs.all (pairV n m H) = true → ∃ ps : List Pr,xs = prs ps ∧ (∀ q ∈ ps,PrAt H q) ∧ ps.all (inB n m) = true := by
        intro xs
        induction xs with
        | nil => exact fun _ _ => ⟨[],rfl,(fun q h => nomatch h),rfl⟩
        | cons x xs ih =>
          intro h1 h2
          rw [List.all_cons,Bool.and_eq_true] at h2
          obtain ⟨ps,e1,e2,e3⟩ := ih (fun y hy => h1 y (List.mem_cons_of_mem _ hy)) h2.2
          obtain ⟨q,rfl,pq,iq⟩ := pairV_inv (h1 x List.mem_cons_self) h2.1
          refine ⟨q :: ps,by rw [e1]; rfl,fun r hr => ?_,by rw [List.all_cons,iq,e3]; rfl⟩
          rcases List.mem_cons.mp hr with rfl | hr
          · exact pq
          · exact e2 r hr
      obtain ⟨ps,rfl,e2,e3⟩ := ch xs hy hv.2
      refine ⟨p,ps,rfl,⟨e,e2⟩,fun z => ?_,e3,by rw [prs_len] at hl; exact hl⟩
      subst z
      exact absurd hv.1 (by simp [prs])
    · cases hv
  · cases hv
theorem Kn.cases_lst' {H : Hp} {n m : Int} {y : V} {t : String} (k : Kn H y t) : (∃ p xs,y = .ref p ∧ H p = some (.lst xs) ∧ t = "list") ∨ (pairsV n m H y = false ∧ isSub t "list" = false) := by
  cases k with
  | lst e => exact .inl ⟨_,_,rfl,e,rfl⟩
  | non => exact .inr ⟨rfl,by decide⟩
  | bl b => exact .inr ⟨rfl,by decide⟩
  | str x => exact .inr ⟨rfl,by decide⟩
  | int a => exact .inr ⟨rfl,by decide⟩
  | tup e => exact .inr ⟨by simp only [pairsV,e],by decide⟩
  | dict e => exact .inr ⟨by simp only [pairsV,e],by decide⟩
theorem Kn.cases_tp' {H : Hp} {n m : Int} {y : V} {t : String} (k : Kn H y t) : (∃ p xs,y = .ref p ∧ H p = some (.tup xs) ∧ t = "tuple") ∨ (pairV n m H y = false ∧ isSub t "tuple" = false) := by
  cases k with
  | tup e => exact .inl ⟨_,_,rfl,e,rfl⟩
  | non => exact .inr ⟨rfl,by decide⟩
  | bl b => exact .inr ⟨rfl,by decide⟩
  | str x => exact .inr ⟨rfl,by decide⟩
  | int a => exact .inr ⟨rfl,by decide⟩
  | lst e => exact .inr ⟨by simp only [pairV,e],by decide⟩
  | dict e => exact .inr ⟨by simp only [pairV,e],by decide⟩
theorem PrAt.th {H : Hp} {q : Pr} (h : PrAt H q) : PTh H (.ref q.p) := by
  refine ⟨⟨_,.tup h.p_⟩,fun p xs e1 e2 y hy => ?_⟩
  cases e1
  rw [h.p_] at e2
  cases e2
  have two : ∀ {a b : Int} {z : Addr},H z = some (.tup [.int a,.int b]) → bits a ≤ 200 → bits b ≤ 60 → Thing H (.ref z) ∧ ∀ q a b,V.ref z = .ref q → H q = some (.tup [.int a,.int b]) → bits a ≤ 200 ∧ bits b ≤ 60 := fun {a b z} e ha hb => by
    refine ⟨th_tup e fun v hv => ?_,fun q a' b' e1 e2 => ?_⟩
    · simp only [List.mem_cons,List.not_mem_nil,or_false] at hv
      rcases hv with rfl | rfl <;> exact ⟨_,.int _⟩
    · cases e1
      rw [e] at e2
      cases e2
      exact ⟨ha,hb⟩
  simp only [List.mem_cons,List.not_mem_nil,or_false] at hy
  rcases hy with rfl | rfl
  · exact two h.x_ h.ba h.bb
  · exact two h.y_ h.bc h.bd
theorem PairsAt.th {H : Hp} {l : Addr} {ps : List Pr} (h : PairsAt H l ps) (hl : ps.length < 900) : PsTh H (.ref l) := by
  refine ⟨⟨_,.lst h.lst⟩,fun p xs e1 e2 => ?_⟩
  cases e1
  rw [h.lst] at e2
  cases e2
  refine ⟨by rw [prs_len]; exact hl,fun y hy => ?_⟩
  obtain ⟨q,hq,rfl⟩ := List.mem_map.mp hy
  exact (h.pr q hq).th
theorem PrAt.pv {n m : Int} {H : Hp} {q : Pr} (h : PrAt H q) : pairV n m H (.ref q.p) = inB n m q := by
  rw [pairV_tup h.p_,placeV_tup h.x_,placeV_tup h.y_,low_B h.lx,low_B h.ly,decide_eq_true h.nx,decide_eq_true h.ny]
  rfl
theorem PairsAt.pv {n m : Int} {H : Hp} {l : Addr} {ps : List Pr} (h : PairsAt H l ps) : pairsV n m H (.ref l) = (!ps.isEmpty && ps.all (inB n m)) := by
  rw [pairsV_lst h.lst]
  unfold prs
  rw [List.all_map]
  congr 1
  · cases ps <;> rfl
  · apply Bool.eq_iff_iff.mpr
    rw [List.all_eq_true,List.all_eq_true]
    exact ⟨fun z q hq => by rw [← (h.pr q hq).pv]; exact z q hq,fun z q hq => by show pairV n m H (.ref q.p) = true; rw [(h.pr q hq).pv]; exact z q hq⟩
def isWay (w : Str) : Prop := w = wOn ∨ w = wPart ∨ w = wFree ∨ w = wHops
instance (w : Str) : Decidable (isWay w) := inferInstanceAs (Decidable (_ ∨ _))
def spWayS (C : Addr) : Sp := fun vs H Q E => ∃ (x : V) (t : String),vs = [x] ∧ Kn H x t ∧ ((∃ w,x = .str w ∧ isWay w ∧ Q .non H) ∨ ((∀ w,x = .str w → ¬ isWay w) ∧ E (.ref C) none H))
def spEnds : Sp := fun vs H Q _ => ∃ (l1 l2 l : Addr) (xs1 xs2 : List V) (f : Pr) (r : List Pr) (w : Str),vs = [.ref l1,.ref l2,.ref l,.str w] ∧ H l1 = some (.lst xs1) ∧ H l2 = some (.lst xs2) ∧ PairsAt H l (f :: r) ∧ ∀ H',Same H H' → Q (.bl (endsB ((xs1.length : Int) - 1) ((xs2.length : Int) - 1) w f ((f :: r).getLast (by simp)))) H'
def spGo2 (g : Int → Int → Int → Int → Bool) : Sp := fun vs H Q _ => ∃ (p q : Addr) (a b c d : Int),vs = [.ref p,.ref q] ∧ H p = some (.tup [.int a,.int b]) ∧ H q = some (.tup [.int c,.int d]) ∧ Small a b ∧ Small c d ∧ ∀ H',Same H H' → Q (.bl (g a b c d)) H'
def spMay : Sp := fun vs H Q _ => ∃ (p q : Addr) (a b c d : Int) (w : Str),vs = [.ref p,.ref q,.str w] ∧ H p = some (.tup [.int a,.int b]) ∧ H q = some (.tup [.int c,.int d]) ∧ Small a b ∧ Small c d ∧ ∀ H',Same H H' → Q (.bl (goB w a b c d)) H'
def spSteps : Sp := fun vs H Q _ => ∃ (l : Addr) (ps : List Pr) (w : Str),vs = [.ref l,.str w] ∧ PairsAt H l ps ∧ ps.length < 900 ∧ ∀ H',Same H H' → Q (.bl (stepsB w ps)) H'
def walkV (n m : Int) (w : Str) (H : Hp) (v : V) (b : Bool) : Prop := (pairsV n m H v = false ∧ b = false) ∨ ∃ (l : Addr) (ps : List Pr),v = .ref l ∧ PairsAt H l ps ∧ b = walkB n m w ps
def spIsWalk (C : Addr) : Sp := fun vs H Q E => ∃ (l1 l2 : Addr) (xs1 xs2 : List V) (v x : V) (t : String),vs = [.ref l1,.ref l2,v,x] ∧ (H l1 = some (.lst xs1) ∧ xs1.length ≤ 100) ∧ (H l2 = some (.lst xs2) ∧ xs2.length ≤ 100) ∧ PsTh H v ∧ Kn H x t ∧
  ((∃ w,x = .str w ∧ isWay w ∧ ∀ (b : Bool) (H' : Hp),Same H H' → walkV ((xs1.length : Int) - 1) ((xs2.length : Int) - 1) w H v b → Q (.bl b) H') ∨ ((∀ w,x = .str w → ¬ isWay w) ∧ E (.ref C) none H))
end Wk
namespace L2
open PySem PySem.Spec PyProof.Rows
section
variable {X : Cx}
def rSlS : V → Option Int → Option Int → Hp → VK → Prop := fun x lo hi H Q => ∃ z,x = .str z ∧ (Txt.slice z lo hi).length ≤ sizeLine ∧ Q (.str (Txt.slice z lo hi)) H
theorem sl_strS : SlR X rSlS := by
  intro pins s σ H x v vl vu lo hi sl Q I rx hs pl pu h
  obtain ⟨z,rfl,hz,q⟩ := h
  obtain ⟨t,rfl⟩ := rx
  refine ⟨"str",_,slot_str_getitem.lookup,typeIs_str s z t,?_⟩
  obtain ⟨l,el,ml⟩ : ∃ l : Option (Int × Tok),partValue l = vl ∧ l.map (·.1) = lo := by
    cases pl with
    | none => exact ⟨none,rfl,rfl⟩
    | int i t => exact ⟨some (i,t),rfl,rfl⟩
  obtain ⟨u,eu,mu⟩ : ∃ l : Option (Int × Tok),partValue l = vu ∧ l.map (·.1) = hi := by
    cases pu with
    | none => exact ⟨none,rfl,rfl⟩
    | int i t => exact ⟨some (i,t),rfl,rfl⟩
  refine wpAny_getItem_str_slice (l := l) (u := u) (st := none) (by rw [← el,← eu] at hs; exact hs) rfl ?_
  subst ml mu
  unfold Txt.slice at q hz
  unfold sliceMade
  have e : slicePicked z l u none = Builtin.Str.strSliceIndices (l.map (·.1)) (u.map (·.1)) 1 z.length := rfl
  rw [e]
  by_cases c : (Builtin.Str.strSliceIndices (l.map (·.1)) (u.map (·.1)) 1 z.length).length == z.length
  · rw [if_pos (show (((none : Option (Int × Tok)).map (·.1)).getD 1 == 1 && _) = true by rw [c]; rfl)]
    rw [if_pos (show ((1 : Int) == 1 && _) = true by rw [c]; rfl)] at q
    exact ⟨.str z,H,I,⟨t,rfl⟩,q⟩
  · have c : ((Builtin.Str.strSliceIndices (l.map (·.1)) (u.map (·.1)) 1 z.length).length == z.length) = false := by simpa using c
    rw [if_neg (show ¬ (((none : Option (Int × Tok)).map (·.1)).getD 1 == 1 && _) = true by rw [c]; simp)]
    rw [if_neg (show ¬ ((1 : Int) == 1 && _) = true by rw [c]; simp)] at q hz
    exact ⟨hz,.str _,H,I.tok _,⟨_,rfl⟩,q⟩
theorem mt_upper : MtR X "str.upper" (fun x xs H Q => ∃ z,x = .str z ∧ xs = [] ∧ z.length ≤ 100000 ∧ Q (.str (Txt.upper z)) H) := by
  intro pins s σ H x xs v us Q I rx rs h
  obtain ⟨z,rfl,rfl,hz,q⟩ := h
  obtain ⟨t,rfl⟩ := rx
  cases rs
  exact SC.upper (fit_upper (by omega)) ⟨.str _,H,I.tok _,⟨_,rfl⟩,q⟩
theorem strs_are : ∀ {ys : List Str} {us : List Value},Vals (ys.map V.str) us → StrsAre us ys
  | [],_,r => by
    cases r
    exact .nil
  | y :: r,_,h => by
    cases h with
    | cons a b =>
      obtain ⟨t,rfl⟩ := a
      exact .cons y t (strs_are b)
def rJoin (K : PySem.W.Frag) : V → List V → Hp → VK → Prop := fun x xs H Q => ∃ z l ys,x = .str z ∧ xs = [.ref l] ∧ SqL K H l (ys.map V.str) ∧ ((ys.map fun x => x.length).sum + ys.length * z.length ≤ 16777216) ∧ Q (.str (Txt.join z ys)) H
theorem mt_join : MtR X "str.join" (rJoin X.K) := by
  intro pins s σ H x xs v us Q I rx rs h
  obtain ⟨z,l,ys,rfl,rfl,hl,hz,q⟩ := h
  obtain ⟨t,rfl⟩ := rx
  obtain ⟨u,rfl,ru⟩ := vals1 rs
  cases ru
  obtain ⟨its,r,pl,_⟩ := I.list hl
  exact join_list pl.isList (strs_are r) hz fun t' k => ⟨.str _,H,I.kept (t' := k) fun b ob q => q,⟨_,rfl⟩,q⟩
end
end L2
namespace L2
open PySem PySem.Spec PyProof.Rows
section
variable {X : Cx}
theorem ps_try_asM {Cs : Addr → Prop} {n en : Str} {B : Addr} {np hpos pos : Pos} {body : List Stmt} {b₀ : Stmt} {suite : List Stmt} {tx : TX} {th : TS} {i : Nat} (stk : X.stack = X.env :: X.outer) (hfr : X.env.frame = some X.env.locals) (hb : PXs X body tx) (O : ExcC X.K X.mg n B) (hg : Gl X n)
    (hm : ∀ C,Cs C → PySem.W.exmOne X.K (.ref C) (.ref B) = some true) (hex : X.ex = []) (hN : X.N.Nodup) (hi : X.N[i]? = some en) (hk : X.env.kindOf en = some .local)
    (hh : ∀ e : Addr,PSs (X.inH e) (b₀ :: suite) th) (hdb : (n == ("__debug__" : Str)) = false := by decide) :
    PS X (.Try body [.ExceptHandler (some (.Name n np)) (some en) (b₀ :: suite) hpos] [] [] pos) (fun D σ H => tx (fun c σ' H' => ∃ C,c = .ref C ∧ Cs C ∧ ∀ e : Addr,H' e = none → th (D.drop i) (σ'.set i (some (.ref e))) (upd H' e (excO C e))) D σ H) := by
  intro pins s σ H D I h
  refine wpAny_Try_except (wpAny_mono (hb pins s σ H D _ I h) (fun f s1 q => ?_) fun ev s1 q => ?_)
  · cases f with
    | next => exact wpAny_execs_nil q
    | ret v => exact q
    | brk => exact q
    | cont => exact q
  · obtain ⟨s₁,σ₁,H₁,E1,I1,hx,hE⟩ := q
    obtain ⟨ea,t,cls,H',B',rfl,os,bare,un,hok,fl,big,q⟩ := hx
    obtain ⟨C,rfl,hC,rd⟩ := hE _ _ _ q
    exact caught_as (E1 := fun c o H'' => c = .ref C ∧ H'' = H') I1 stk hfr O hg (hm C hC) hex hN hi hk ⟨ea,t,_,H',B',rfl,os,bare,un,hok,fl,big,rfl,rfl⟩ (fun c o H'' z => by obtain ⟨rfl,rfl⟩ := z; exact ⟨rfl,rd⟩) hh hdb
def rIsEM (K : PySem.W.Frag) (Cs : Addr → Prop) : List V → Hp → VK → Prop := fun xs H Q => ∃ C,Cs C ∧ rIsE K C xs H Q
theorem call_isexcM {Cs : Addr → Prop} (h : ∀ C,Cs C → (∃ n,ExcC X.K X.mg n C) ∧ ExcF X.K C) : CallR X (.builtin "isinstance") (rIsEM X.K Cs) := by
  intro pins s σ H xs us Q I rs q
  obtain ⟨C,hC,q⟩ := q
  obtain ⟨⟨n,O⟩,f⟩ := h C hC
  exact call_isexc O f pins s σ H xs us Q I rs q
end
end L2
namespace L2
open PySem PySem.Spec PyProof.Rows
section
variable {X : Cx}
end
end L2
namespace L2
open PySem PySem.Spec PyProof.Rows PySem.NumText
def Dig (K : PySem.W.Frag) : Prop := PySem.W.nsIn K cStatics "sys.int_max_str_digits" = some none
theorem dig_heap {K : PySem.W.Frag} {h : Heap} (X : K.In h) (l : h.NoLimit) (d : Dig K) : h.NoDigits := by
  obtain ⟨mc,G,_⟩ := l
  refine ⟨mc,G,?_⟩
  obtain ⟨o,es,ep,ho,hd,_,hf⟩ := G
  have e := d
  unfold Dig PySem.W.nsIn at e
  split at e
  · rename_i c d es' n' sl q
    have := X _ _ q
    rw [ho] at this
    cases this
    cases hd
    split at e
    · cases e
    · rename_i he
      rw [← hf]
      unfold nsFind findBy
      rw [← Array.find?_toList,he]
      rfl
  · cases e
section
variable {X : Cx} {pins : List (Addr × Obj)} {σ : St} {H : Hp} {s : Shared}
theorem Inv.nodig (I : Inv X pins σ H s) (d : Dig X.K) : s.heap.NoDigits := (dig_heap I.ok.mod.kin I.ok.mod.nolimit d).keeps I.bk
end
def num (n : Int) : Str := Str.ofString (toString n)
def Dg (n : Int) : Prop := n.natAbs < 10 ^ 4300
section
variable {prog : Program} {w : World} {A : Around} {E : Value → Shared → Prop} {s : Shared} {Q : Value → Shared → Prop} {x : PySem.Str} {t : Tok} {n : Int}
theorem wp_long {M : Model} {A : Around} {E : Value → Shared → Prop} {s : Shared} {Q : Value → Shared → Prop} {v : Value} {text : List Nat} {n : Int}
    (hs : ¬ (text.takeWhile (· != 0)).length ≤ 640) (hn : s.heap.NoDigits) (hr : (int_private% "readNumeral") 4300 10 (text.takeWhile (· != 0)) = (int_private% "Numeral.value") n)
    (ha : ((text.takeWhile (· != 0)).length == text.length) = true) (h : Q (.int n s.toks) { s with toks := s.toks + 1 }) :
    wpAny M A ((int_private% "intFromText") v text 10) Q E s := by
  show wpAny M A (do
    let limit ← if (text.takeWhile (· != 0)).length ≤ 640 then pure 0 else Builtin.intMaxStrDigits
    _) Q E s
  rw [if_neg hs]
  unfold Builtin.intMaxStrDigits
  obtain ⟨mc,hns,hnone⟩ := hn
  refine wpAny_bind (wpAny_bind (wpAny_nsGet hns ?_))
  rw [hnone]
  refine wpAny_pure ?_
  dsimp only
  rw [hr]
  dsimp only
  repeat (any_goals (first
    | assumption
    | (with_reducible refine wpAny_ite_true (decide_eq_true ha) ?_)
    | wp_step))
set_option maxHeartbeats 4000000 in
theorem meets_long {x : PySem.Str} {u : Tok} {n : Int} (hl : x.length ≤ 4300) (hn : PySem.intText? x = some n) (h6 : ¬ (numSeenOf x).length ≤ 640) : Meets (Builtin.«int.__new__» ⟨[.type "int",.str x u],[]⟩) (fun _ R s => s.heap.NoDigits ∧ R (.ok (.ret (.int n s.toks))) { s with toks := s.toks + 1 }) :=
  Meets.of_wp fun prog w A R s ⟨nd,h⟩ => by
    have f1 := F.conv_sub_int
    have f2 := F.madeHere_int
    have f3 := PySem.W.KIN.str_int
    have f4 := PySem.W.KIN.str_idx
    have f5 := PySem.W.KIN.str_trunc
    have f6 : typeOf (.str x u) = pure (.type "str") := rfl
    have hr : (int_private% "readNumeral") 4300 10 (numSeenOf x) = (int_private% "Numeral.value") n ∧ ((numSeenOf x).length == (numTextOf x).length) = true := by
      rcases read4300 x (Nat.le_trans hl (by decide)) with ⟨m,h1,h2,h3⟩ | ⟨h1,_⟩
      · rw [hn] at h1
        injection h1 with h1
        subst h1
        exact ⟨h3,h2⟩
      · rw [hn] at h1
        cases h1
    have hk := PySem.W.KIN.Hid.mk (And.intro h6 hr)
    have nk := PySem.W.KIN.Hid.mk nd
    have hq := PySem.W.KIN.Hid.mk h
    clear h6 hr hl hn nd h
    obtain ⟨hp,g,d,tk,os⟩ := s
    repeat (any_goals (first
      | assumption
      | ((with_reducible show wpAny _ _ ((int_private% "intFromText") _ _ _) _ _ _); refine wp_long hk.out.1 nk.out hk.out.2.1 hk.out.2.2 ?_)
      | wp_step))
    all_goals first | exact ⟨_,rfl,hq.out⟩ | skip
theorem int_text (hn : s.heap.NoDigits) (hc : ∀ c ∈ x.cps.toList,c = 45 ∨ (48 ≤ c ∧ c ≤ 57)) (hl : x.length ≤ 4300) (e : PySem.intText? x = some n) (h : ∀ t' k,Q (.int n t') { s with toks := k }) : wpAny (model prog w) A (call (.type "int") [.str x t]) Q E s := by
  by_cases h7 : x.length ≤ 640
  · exact PySem.W.KIN.call_text e h7 (h _ _)
  · refine PySem.call_int_1 (meets_long hl e ?_) ⟨hn,rfl,h _ _⟩
    rw [(numText_signs hc).2]
    have : x.cps.toList.length = x.length := Array.length_toList
    omega
end
section
variable {X : Cx}
def rStrI : List V → Hp → VK → Prop := fun xs H Q => ∃ n : Int,xs = [.int n] ∧ Dg n ∧ Q (.str (num n)) H
theorem call_strI {K : PySem.W.Frag} (hK : X.K = K) (d : Dig K) (hc : X.calm = true) : CallR X (.type "str") rStrI := by
  subst hK
  intro pins s σ H xs us Q I rs q
  obtain ⟨n,rfl,hd,q⟩ := q
  obtain ⟨u,rfl,ru⟩ := vals1 rs
  obtain ⟨t,rfl⟩ := ru
  exact str_of_int_or (I.ok.hd hc) (I.nodig d) (fun _ => ⟨.str _,H,I.tok _,⟨_,rfl⟩,q⟩) fun hge => absurd hd (Nat.not_lt.mpr hge)
def rIntS : List V → Hp → VK → Prop := fun xs H Q => ∃ (x : Str) (n : Int),xs = [.str x] ∧ (∀ c ∈ x.cps.toList,c = 45 ∨ (48 ≤ c ∧ c ≤ 57)) ∧ x.length ≤ 4300 ∧ PySem.intText? x = some n ∧ Q (.int n) H
theorem call_intS {K : PySem.W.Frag} (hK : X.K = K) (d : Dig K) : CallR X (.type "int") rIntS := by
  subst hK
  intro pins s σ H xs us Q I rs q
  obtain ⟨x,n,rfl,hc,hl,e,q⟩ := q
  obtain ⟨u,rfl,ru⟩ := vals1 rs
  obtain ⟨t,rfl⟩ := ru
  exact int_text (I.nodig d) hc hl e fun t' k => ⟨.int n,H,I.kept (t' := k) fun b ob z => z,⟨_,rfl⟩,q⟩
theorem mt_startswith : MtR X "str.startswith" (fun x xs H Q => ∃ z y,x = .str z ∧ xs = [.str y] ∧ Q (.bl (Txt.startswith z y)) H) := by
  intro pins s σ H x xs v us Q I rx rs h
  obtain ⟨z,y,rfl,rfl,q⟩ := h
  obtain ⟨t,rfl⟩ := rx
  obtain ⟨u,rfl,ru⟩ := vals1 rs
  obtain ⟨t',rfl⟩ := ru
  exact SC.startswith ⟨.bl _,H,I,rfl,q⟩
end
end L2
namespace L2
open PySem PySem.Spec PyProof.Rows PySem.NumText
section
variable {X : Cx}
def tFmt (te : TE) : TE := fun σ H Q => te σ H fun v H1 => (∃ n,v = .int n ∧ Dg n ∧ Q (.str (num n)) H1) ∨ ∃ z,v = .str z ∧ z.length ≤ sizeLine ∧ Q (.str z) H1
theorem pe_fmt {K : PySem.W.Frag} {e : Expr} {te : TE} {pos : Pos} (hK : X.K = K) (d : Dig K) (hc : X.calm = true) (h : PE X e te) : PE X (.FormattedValue e (-1) none pos) (tFmt te) := by
  subst hK
  intro pins s σ H Q I q
  refine FormattedValue_plain (thn (h pins s σ H _ I q) fun v s1 ⟨x,H1,I1,r1,q1⟩ => ?_)
  rcases q1 with ⟨n,rfl,hd,q1⟩ | ⟨z,rfl,hz,q1⟩
  · obtain ⟨t,rfl⟩ := r1
    exact formatField_int (I1.ok.hd hc) (I1.nodig d) (fun _ => ⟨.str _,H1,I1.kept (t' := s1.toks + 1 + 1) fun b ob z => z,⟨_,rfl⟩,q1⟩) fun hge => absurd hd (Nat.not_lt.mpr hge)
  · obtain ⟨t,rfl⟩ := r1
    exact formatField_str (fun t' tk => ⟨.str _,H1,I1.kept (t' := tk) fun b ob z => z,⟨_,rfl⟩,q1⟩) hz
def tJoin3 (t1 t2 t3 : TE) : TE := fun σ H Q => t1 σ H fun v1 H1 => ∃ y1,v1 = .str y1 ∧ y1.length ≤ sizeLine ∧ t2 σ H1 fun v2 H2 => ∃ y2,v2 = .str y2 ∧ y1.length + y2.length ≤ sizeLine ∧ t3 σ H2 fun v3 H3 => ∃ y3,v3 = .str y3 ∧ y1.length + y2.length + y3.length ≤ sizeLine ∧ Q (.str (y1 ++ y2 ++ y3)) H3
theorem empty_app (y : Str) : Str.empty ++ y = y := by
  show (⟨#[] ++ y.cps⟩ : Str) = y
  rw [Array.empty_append]
theorem pe_join3 {e1 e2 e3 : Expr} {t1 t2 t3 : TE} {pos : Pos} (h1 : PE X e1 t1) (h2 : PE X e2 t2) (h3 : PE X e3 t3) : PE X (.JoinedStr [e1,e2,e3] pos) (tJoin3 t1 t2 t3) := by
  intro pins s σ H Q I q
  refine JoinedStr_many (joinParts_cons (thn (h1 pins s σ H _ I q) fun v s1 ⟨x1,H1,I1,r1,y1,e1,z1,q1⟩ => ?_))
  subst e1
  obtain ⟨t,rfl⟩ := r1
  dsimp only
  rw [empty_app]
  refine ⟨z1,joinParts_cons (thn (h2 pins s1 σ H1 _ I1 q1) fun v s2 ⟨x2,H2,I2,r2,y2,e2,z2,q2⟩ => ?_)⟩
  subst e2
  obtain ⟨t,rfl⟩ := r2
  refine ⟨by rw [Str.length_append]; exact z2,?_⟩
  show wpAny _ _ (joinParts (y1 ++ y2) [eval _ X.env]) _ _ _
  refine joinParts_cons (thn (h3 pins s2 σ H2 _ I2 q2) fun v s3 ⟨x3,H3,I3,r3,y3,e3,z3,q3⟩ => ?_)
  subst e3
  obtain ⟨t,rfl⟩ := r3
  refine ⟨by rw [Str.length_append,Str.length_append]; exact z3,joinParts_nil ⟨.str _,H3,I3.tok _,⟨_,rfl⟩,q3⟩ (by rw [Str.length_append,Str.length_append]; exact z3)⟩
def tJoin2 (t1 t2 : TE) : TE := fun σ H Q => t1 σ H fun v1 H1 => ∃ y1,v1 = .str y1 ∧ y1.length ≤ sizeLine ∧ t2 σ H1 fun v2 H2 => ∃ y2,v2 = .str y2 ∧ y1.length + y2.length ≤ sizeLine ∧ Q (.str (y1 ++ y2)) H2
theorem pe_join2 {e1 e2 : Expr} {t1 t2 : TE} {pos : Pos} (h1 : PE X e1 t1) (h2 : PE X e2 t2) : PE X (.JoinedStr [e1,e2] pos) (tJoin2 t1 t2) := by
  intro pins s σ H Q I q
  refine JoinedStr_many (joinParts_cons (thn (h1 pins s σ H _ I q) fun v s1 ⟨x1,H1,I1,r1,y1,e1,z1,q1⟩ => ?_))
  subst e1
  obtain ⟨t,rfl⟩ := r1
  dsimp only
  rw [empty_app]
  refine ⟨z1,?_⟩
  refine joinParts_cons (thn (h2 pins s1 σ H1 _ I1 q1) fun v s2 ⟨x2,H2,I2,r2,y2,e2,z2,q2⟩ => ?_)
  subst e2
  obtain ⟨t,rfl⟩ := r2
  exact ⟨by rw [Str.length_append]; exact z2,joinParts_nil ⟨.str _,H2,I2.tok _,⟨_,rfl⟩,q2⟩ (by rw [Str.length_append]; exact z2)⟩
theorem op_inS : OpR X (compareOp .In) (fun x y H Q => ∃ a b,x = .str a ∧ y = .str b ∧ Q (.bl (Txt.contains b a)) H) := by
  intro pins s σ H x y v u Q I rx ry h
  obtain ⟨a,b,rfl,rfl,q⟩ := h
  obtain ⟨t,rfl⟩ := rx
  obtain ⟨t',rfl⟩ := ry
  exact SB.contains ⟨.bl _,H,I,rfl,q⟩
theorem strs_vals : ∀ {l : List (Str × Tok)},Vals ((l.map (·.1)).map V.str) (strValues l)
  | [] => .nil
  | (x,t) :: l => .cons ⟨t,rfl⟩ (strs_vals (l := l))
theorem mt_split : MtR X "str.split" (fun x xs H Q => ∃ z y,x = .str z ∧ xs = [.str y] ∧ (y.length == 0) = false ∧ z.length ≤ 100000 ∧ ∀ p H2,Same H H2 → H2 p = some (.lst ((Txt.split z y).map V.str)) → H p = none → Q (.ref p) H2) := by
  intro pins s σ H x xs v us Q I rx rs h
  obtain ⟨z,y,rfl,rfl,hy,hz,q⟩ := h
  obtain ⟨t,rfl⟩ := rx
  obtain ⟨u,rfl,ru⟩ := vals1 rs
  obtain ⟨t',rfl⟩ := ru
  have hs : sizeLine = 16777216 := sizeLine_eq
  have hle := split_le z y
  have fin : ∀ (l : List (Str × Tok)) (k : Nat),l.map (·.1) = Txt.split z y → EP X pins σ Q (.ref s.heap.objs.size) { s with toks := k,heap := s.heap.push { cls := .type "list",data := .seq (strValues l).toArray } } := fun l k e => by
    have vs := strs_vals (l := l)
    rw [e] at vs
    exact ⟨.ref _,_,I.lnew (t' := k) vs (by rw [List.length_map]; omega),rfl,q _ _ (Same.new I.fresh) upd_same I.fresh⟩
  cases h1 : (decide (z.length < y.length) || decide (Builtin.Str.strKind z < Builtin.Str.strKind y))
  · cases hf : (Builtin.Str.occurrences z y 0 z.length (z.length + 1)).isEmpty
    · have es : Txt.split z y = Builtin.Str.partsBetween z (Builtin.Str.occurrences z y 0 z.length (z.length + 1)) y.length := (if_neg (ne_true_of_eq_false h1)).trans (if_neg (ne_true_of_eq_false hf))
      refine call_meets F.slot_str_split (typeIs_str _ _ _) F.entry_str_split (F.args_str_split_2 _ _) (meets_str_split_sep z y t t' h1 hy hf (by omega) (by rw [← es]; omega)) ?_
      show wants _ _ _ { s with toks := _,heap := s.heap.push { cls := .type "list",data := .seq (strsFrom s.toks (Builtin.Str.partsBetween z (Builtin.Str.occurrences z y 0 z.length (z.length + 1)) y.length)).toArray } }
      rw [strsFrom_eq]
      exact fin _ _ ((numbered_texts _ _).trans es.symm)
    · exact call_meets F.slot_str_split (typeIs_str _ _ _) F.entry_str_split (F.args_str_split_2 _ _) (meets_str_split_not_found z y t t' h1 hy hf) (fin [(z,t)] s.toks ((if_neg (ne_true_of_eq_false h1)).trans (if_pos hf)).symm)
  · exact call_meets F.slot_str_split (typeIs_str _ _ _) F.entry_str_split (F.args_str_split_2 _ _) (meets_str_split_cannot_occur z y t t' h1) (fin [(z,t)] s.toks (if_pos h1).symm)
end
def Its (x : Str) : It := ⟨fun i _ => i < x.cps.size,fun i H v H' => H' = H ∧ ∃ c,x.cps.toList[i]? = some c ∧ v = .str ⟨#[c]⟩,fun i _ => x.cps.size ≤ i⟩
theorem turn_str {P : Program} {w : World} {K : PySem.W.Frag} {tg : Expr} (x : Str) (t : Tok) (it : Addr) (ty : String) (hty : ty = "str_ascii_iterator" ∨ ty = "str_iterator") : Turn P w K tg (Its x) [it] it (fun i h => h.IsStrIter it ty x t i) where
  mem := by simp
  obj := fun i h st b hb => by
    have e : b = it := by simpa using hb
    subst e
    obtain ⟨o,e,c,d⟩ := st
    exact ⟨o,e,fun v z => by rw [d] at z; cases z⟩
  keep := fun i h h' st k => by
    obtain ⟨o,e,c,d⟩ := st
    exact ⟨o,k it (by simp) o e,c,d⟩
  item := by
    intro X hP hw hK hc i pins s σ H E I hf st hg
    subst hP hw hK
    obtain ⟨f0,f1,f2,f3,f4,f5⟩ := hf it (by simp)
    have hi : i < x.cps.size := hg
    have hx : x.cps[i]? = some x.cps[i] := by simp [hi]
    have hx2 : x.cps.toList[i]? = some x.cps[i] := by simp [hi]
    have go : ∀ h' tk,h'.IsStrIter it ty x t (i + 1) → Heap.SameBut it s.heap h' → ∃ u,some (Value.str ⟨#[x.cps[i]]⟩ s.toks) = some u ∧ wpAny (model X.prog X.w) X.A (letOwnedTupleGo tg (.ref it) u) (fun _ s2 => ∃ v H',Inv X pins σ H' s2 ∧ RelV v u ∧ (Its x).yld i H v H' ∧ s2.heap.IsStrIter it ty x t (i + 1) ∧ ∀ b ∈ [it],H' b = none) E { s with heap := h',toks := tk } := fun h' tk st' sb => by
      have I1 : Inv X pins σ H { s with heap := h',toks := tk } := I.turned (t' := tk) (fun b o hb e => (sb.2 b hb).trans e) f0 f1 f3 f4 f5
      obtain ⟨o,e,c,d⟩ := id st'
      exact ⟨_,rfl,go_of (s := { s with heap := h',toks := tk }) e c d (by rcases hty with rfl | rfl <;> decide) ⟨.str ⟨#[x.cps[i]]⟩,H,I1,⟨_,rfl⟩,⟨rfl,_,hx2,rfl⟩,st',fun b hb => (hf b hb).1⟩⟩
    rcases hty with rfl | rfl
    · exact wpAny_pyNext_ascii_item st hx fun h' st' sb => go h' _ st' sb
    · exact wpAny_pyNext_wide_item st hx fun h' st' sb => go h' _ st' sb
  done := by
    intro X hP hw hK hc i pins s σ H E I hf st hg
    subst hP hw hK
    obtain ⟨f0,f1,f2,f3,f4,f5⟩ := hf it (by simp)
    have hi : x.cps.size ≤ i := hg
    have hx : x.cps[i]? = none := by simp [hi]
    rcases hty with rfl | rfl
    · exact wpAny_pyNext_ascii_end (I.ok.hd hc) st hx fun h' eb => ⟨rfl,I.turned (t' := s.toks) (fun b o hb e => eb b o hb e) f0 f1 f3 f4 f5⟩
    · exact wpAny_pyNext_wide_end (I.ok.hd hc) st hx fun h' eb => ⟨rfl,I.turned (t' := s.toks) (fun b o hb e => eb b o hb e) f0 f1 f3 f4 f5⟩
  self := fun _ _ _ _ _ st h => by
    rcases hty with rfl | rfl
    · exact wpAny_pyIter_striter_ascii st h
    · exact wpAny_pyIter_striter_wide st h
section
variable {X : Cx} {tg : Expr}
def iStr (tl : TE) : TI := fun σ H R => tl σ H fun v H1 => ∃ x,v = .str x ∧ R (Its x) H1
theorem pi_str {l : Expr} {tl : TE} (hl : PE X l tl) : PI X tg l (iStr tl) := by
  intro pins s σ H R I h
  refine thn (hl pins s σ H _ I h) fun v s1 ⟨y,H1,I1,r1,q1⟩ => ?_
  obtain ⟨x,e,q⟩ := q1
  subst e
  obtain ⟨t,rfl⟩ := r1
  refine wpAny_pyIter_strU ?_
  refine ⟨s1.heap.objs.size,[s1.heap.objs.size],_,_,H1,rfl,I1.kept (t' := s1.toks) fun b o e => Heap.get?_push_of_some _ e,turn_str x t _ (strIterType x) (by unfold strIterType; split <;> simp),⟨_,Heap.get?_push_size _ rfl,rfl,rfl⟩,fun b hb => ?_,q⟩
  have e : b = s1.heap.objs.size := by simpa using hb
  subst e
  exact I1.fpOk (Nat.le_refl _) (I1.hok.fresh (Nat.le_refl _))
end
theorem comp_sR {x : Str} {fv : List (Str × Nat)} {te : TE} {σ : St} {H1 : Hp} {Q : VK} (hlen : x.cps.size < 1000000) (R : Nat → V → Hp → Prop) (hR : ∀ i v H H',SameT H H' → R i v H → R i v H')
    (hs : ∀ i c H2 (Kc : VK),x.cps.toList[i]? = some c → Same H1 H2 → (∀ y H4,Same H2 H4 → R i y H4 → Kc y H4) → te (some (.str ⟨#[c]⟩) :: fvs fv σ) H2 Kc)
    (hd : ∀ l ys H',H1 l = none → Same H1 H' → H' l = some (.lst ys) → ys.length = x.cps.size → (∀ i y,ys[i]? = some y → R i y H') → Q (.ref l) H') :
    CompAt (Its x) fv te σ H1 Q := by
  intro l hl
  have hz : sizeLine = 16777216 := sizeLine_eq
  refine ⟨fun i m acc H2 => m = x.cps.size - i ∧ i ≤ x.cps.size ∧ acc.length = i ∧ Same H1 H2 ∧ H2 l = some (.lst acc) ∧ ∀ j y,acc[j]? = some y → R j y H2,⟨x.cps.size,by simp,Nat.zero_le _,rfl,Same.new hl,upd_same,fun j y h => by simp at h⟩,?_⟩
  rintro i m acc H2 ⟨rfl,hi,e1,sm,e3,hr⟩
  refine ⟨e3,by omega,?_⟩
  by_cases hlt : i < x.cps.size
  · refine .inr ⟨hlt,fun v H3 y => ?_⟩
    obtain ⟨rfl,c,hc,rfl⟩ := y
    refine hs i c _ _ hc sm fun y H4 s4 ry => ⟨s4 _ _ e3,x.cps.size - (i + 1),by omega,rfl,hlt,by simp [e1],(sm.trans s4).upd hl,upd_same,fun j z hz => ?_⟩
    have t4 := SameT.upd (ys := acc ++ [y]) (s4 _ _ e3)
    rcases Nat.lt_trichotomy j acc.length with h | h | h
    · rw [List.getElem?_append_left h] at hz
      exact hR _ _ _ _ (s4.t.trans t4) (hr j z hz)
    · subst h
      rw [List.getElem?_append_right (Nat.le_refl _),Nat.sub_self] at hz
      cases hz
      rw [e1]
      exact hR _ _ _ _ t4 ry
    · rw [List.getElem?_eq_none (by simp; omega)] at hz
      cases hz
  · have e : i = x.cps.size := by omega
    subst e
    exact .inl ⟨Nat.le_refl _,hd l acc H2 hl sm e3 e1 hr⟩
end L2
namespace L2
open PySem PySem.NumText
def digs (m : Nat) : List Nat := (Nat.toDigits 10 m).map Char.toNat
theorem digs_all (m : Nat) : AllDigits (digs m) := by
  intro c hc
  obtain ⟨ch,hch,e⟩ := List.mem_map.mp hc
  have r := PyProof.Rows.digit_range (Nat.isDigit_of_mem_toDigits (by decide) (by decide) hch)
  rw [← e]
  exact r
theorem digs_ne (m : Nat) : digs m ≠ [] := fun e => by
  have h := Nat.length_toDigits_pos (b := 10) (n := m)
  rw [List.map_eq_nil_iff.mp e] at h
  exact absurd h (by decide)
theorem digs_val (m : Nat) : digitsVal (digs m) = m := PySem.W.KIN.val_back m
theorem digs_len {m k : Nat} (hk : 0 < k) : (digs m).length ≤ k ↔ m < 10 ^ k := by
  unfold digs
  rw [List.length_map]
  exact Nat.length_toDigits_le_iff (by decide) hk
theorem digs_inj {a b : Nat} (h : digs a = digs b) : a = b := by rw [← digs_val a,← digs_val b,h]
theorem digitsVal_lt : ∀ (cs : List Nat) (a : Nat),AllDigits cs → cs.foldl (fun acc c => acc * 10 + (c - 48)) a < (a + 1) * 10 ^ cs.length
  | [],a,_ => by simp
  | c :: cs,a,h => by
    have ih := digitsVal_lt cs (a * 10 + (c - 48)) h.tail
    have hc := h.head
    rw [List.foldl_cons,List.length_cons,Nat.pow_succ]
    refine Nat.lt_of_lt_of_le ih ?_
    have : a * 10 + (c - 48) + 1 ≤ (a + 1) * 10 := by omega
    calc (a * 10 + (c - 48) + 1) * 10 ^ cs.length ≤ ((a + 1) * 10) * 10 ^ cs.length := Nat.mul_le_mul_right _ this
      _ = (a + 1) * (10 ^ cs.length * 10) := by rw [Nat.mul_assoc,Nat.mul_comm 10]
theorem val_lt {cs : List Nat} (h : AllDigits cs) : digitsVal cs < 10 ^ cs.length := by
  have := digitsVal_lt cs 0 h
  simpa [digitsVal] using this
theorem num_nat (m : Nat) : (num (m : Int)).cps.toList = digs m := PySem.W.KIN.signs_num m
theorem num_neg (m : Nat) : (num (-((m + 1 : Nat) : Int))).cps.toList = 45 :: digs (m + 1) := by
  unfold num
  rw [PyProof.Rows.signs_ofString]
  show (Int.repr (Int.negSucc m)).toList.map Char.toNat = _
  have e : Int.repr (Int.negSucc m) = "-" ++ Nat.repr (m + 1) := rfl
  rw [e,String.toList_append,List.map_append,Nat.toList_repr]
  rfl
def figL : List Nat → List Nat
  | 45 :: r => r
  | l => l
theorem figL_minus (r : List Nat) : figL (45 :: r) = r := rfl
theorem figL_of {l : List Nat} (h : ∀ r,l ≠ 45 :: r) : figL l = l := by
  unfold figL
  split
  · rename_i r
    exact absurd rfl (h r)
  · rfl
theorem digits_nominus {l : List Nat} (h : AllDigits l) : ∀ r,l ≠ 45 :: r := fun r e => by
  subst e
  have := h.head
  omega
theorem num_fig (n : Int) : figL (num n).cps.toList = digs n.natAbs := by
  cases n with
  | ofNat m =>
    rw [show Int.ofNat m = (m : Int) from rfl,num_nat]
    exact figL_of (digits_nominus (digs_all m))
  | negSucc m =>
    rw [show Int.negSucc m = -((m + 1 : Nat) : Int) from rfl,num_neg]
    rfl
theorem num_cases (n : Int) : (num n).cps.toList = digs n.natAbs ∧ 0 ≤ n ∨ (num n).cps.toList = 45 :: digs n.natAbs ∧ n < 0 := by
  cases n with
  | ofNat m => exact .inl ⟨num_nat m,Int.natCast_nonneg m⟩
  | negSucc m =>
    refine .inr ⟨?_,by omega⟩
    rw [show Int.negSucc m = -((m + 1 : Nat) : Int) from rfl,num_neg]
    rfl
theorem num_signs (n : Int) : ∀ c ∈ (num n).cps.toList,c = 45 ∨ (48 ≤ c ∧ c ≤ 57) := by
  rcases num_cases n with ⟨e,_⟩ | ⟨e,_⟩
  · rw [e]
    exact fun c hc => .inr (digs_all _ c hc)
  · rw [e]
    intro c hc
    rcases List.mem_cons.mp hc with rfl | hc
    · exact .inl rfl
    · exact .inr (digs_all _ c hc)
theorem len_toList (x : Str) : x.cps.toList.length = x.length := Array.length_toList
theorem num_len {n : Int} {k : Nat} (hk : 0 < k) (h : n.natAbs < 10 ^ k) : (num n).length ≤ k + 1 := by
  have := (digs_len hk).mpr h
  rw [← len_toList]
  rcases num_cases n with ⟨e,_⟩ | ⟨e,_⟩
  · rw [e]; omega
  · rw [e,List.length_cons]; omega
theorem int_num {n : Int} (h : (num n).length ≤ 4300) : intText? (num n) = some n := by
  rcases num_cases n with ⟨e,h0⟩ | ⟨e,h0⟩
  · have := intText_digits (x := num n) (by rw [e]; exact digs_all _) (by rw [e]; exact digs_ne _) h
    rw [this,e,digs_val]
    congr 1
    omega
  · have := intText_neg (x := num n) e (digs_all _) (digs_ne _) h
    rw [this,digs_val]
    congr 1
    omega
theorem num_inj {a b : Int} (h : num a = num b) : a = b := by
  have e := congrArg (fun x => x.cps.toList) h
  have f : digs a.natAbs = digs b.natAbs := by rw [← num_fig a,← num_fig b,h]
  have g := digs_inj f
  rcases num_cases a with ⟨e1,h1⟩ | ⟨e1,h1⟩ <;> rcases num_cases b with ⟨e2,h2⟩ | ⟨e2,h2⟩
  · omega
  · exact absurd (show (num a).cps.toList = 45 :: digs b.natAbs from e.trans e2) (by rw [e1]; exact digits_nominus (digs_all _) _)
  · exact absurd (show (num b).cps.toList = 45 :: digs a.natAbs from e.symm.trans e1) (by rw [e2]; exact digits_nominus (digs_all _) _)
  · omega
theorem whole_read {x : Str} {k : Nat} (h : AllDigits (figL x.cps.toList)) (hne : figL x.cps.toList ≠ []) (hl : (figL x.cps.toList).length ≤ k) (hk : k ≤ 4000) :
    ∃ v : Int,(∀ c ∈ x.cps.toList,c = 45 ∨ (48 ≤ c ∧ c ≤ 57)) ∧ x.length ≤ 4300 ∧ intText? x = some v ∧ v.natAbs < 10 ^ k ∧ ∀ n,x = num n → n = v := by
  have ll := len_toList x
  have fin : ∀ v : Int,x.length ≤ 4300 → intText? x = some v → ∀ n,x = num n → n = v := fun v h1 h2 n e => by
    subst e
    rw [int_num h1] at h2
    exact Option.some.inj h2
  have lt : digitsVal (figL x.cps.toList) < 10 ^ k := Nat.lt_of_lt_of_le (val_lt h) (Nat.pow_le_pow_right (by decide) hl)
  by_cases hm : ∃ r,x.cps.toList = 45 :: r
  · obtain ⟨r,e⟩ := hm
    rw [e,figL_minus] at h hne hl lt
    have h43 : x.length ≤ 4300 := by rw [← ll,e,List.length_cons]; omega
    have it := intText_neg e h hne h43
    refine ⟨_,?_,h43,it,by omega,fin _ h43 it⟩
    rw [e]
    intro c hc
    rcases List.mem_cons.mp hc with rfl | hc
    · exact .inl rfl
    · exact .inr (h c hc)
  · have ef := figL_of (l := x.cps.toList) fun r e => hm ⟨r,e⟩
    rw [ef] at h hne hl lt
    have h43 : x.length ≤ 4300 := by omega
    have it := intText_digits h hne h43
    exact ⟨_,fun c hc => .inr (h c hc),h43,it,by omega,fin _ h43 it⟩
theorem Dg.of {n : Int} {k : Nat} (h : n.natAbs < 10 ^ k) (hk : k ≤ 4300) : Dg n := Nat.lt_of_lt_of_le h (Nat.pow_le_pow_right (by decide) hk)
theorem cut_one {c : Nat} : ∀ {a b r s : List Nat},c ∉ a → c ∉ b → a ++ c :: r = b ++ c :: s → a = b ∧ r = s
  | [],[],r,s,_,_,e => ⟨rfl,(List.cons.inj e).2⟩
  | [],y :: b,r,s,_,hb,e => absurd (show c ∈ y :: b by rw [(List.cons.inj e).1]; exact List.mem_cons_self) hb
  | x :: a,[],r,s,ha,_,e => absurd (show c ∈ x :: a by rw [← (List.cons.inj e).1]; exact List.mem_cons_self) ha
  | x :: a,y :: b,r,s,ha,hb,e => by
    obtain ⟨h1,h2⟩ := List.cons.inj e
    obtain ⟨h3,h4⟩ := cut_one (fun z => ha (List.mem_cons_of_mem _ z)) (fun z => hb (List.mem_cons_of_mem _ z)) h2
    exact ⟨by rw [h1,h3],h4⟩
theorem app_list (a y : Str) : (a ++ y).cps.toList = a.cps.toList ++ y.cps.toList := by rw [Str.cps_append,Array.toList_append]
theorem join_uniq {c : Nat} : ∀ {ps qs : List Str},ps ≠ [] → qs ≠ [] → (∀ p ∈ ps,c ∉ p.cps.toList) → (∀ q ∈ qs,c ∉ q.cps.toList) → Str.join ⟨#[c]⟩ ps = Str.join ⟨#[c]⟩ qs → ps = qs
  | [],_,h,_,_,_,_ => absurd rfl h
  | _,[],_,h,_,_,_ => absurd rfl h
  | [a],[b],_,_,_,_,e => by
    have e : a = b := e
    rw [e]
  | [a],b :: b2 :: r,_,_,h1,h2,e => by
    have e : a = b ++ ⟨#[c]⟩ ++ Str.join ⟨#[c]⟩ (b2 :: r) := e
    refine absurd ?_ (h1 a (List.mem_singleton.mpr rfl))
    rw [e,app_list,app_list]
    simp
  | a :: a2 :: r,[b],_,_,h1,h2,e => by
    have e : a ++ ⟨#[c]⟩ ++ Str.join ⟨#[c]⟩ (a2 :: r) = b := e
    refine absurd ?_ (h2 b (List.mem_singleton.mpr rfl))
    rw [← e,app_list,app_list]
    simp
  | a :: a2 :: r,b :: b2 :: s,_,_,h1,h2,e => by
    have e : (a ++ ⟨#[c]⟩ ++ Str.join ⟨#[c]⟩ (a2 :: r)).cps.toList = (b ++ ⟨#[c]⟩ ++ Str.join ⟨#[c]⟩ (b2 :: s)).cps.toList := congrArg (fun x => x.cps.toList) e
    simp only [app_list] at e
    rw [List.append_assoc,List.append_assoc] at e
    obtain ⟨e1,e2⟩ := cut_one (c := c) (h1 a List.mem_cons_self) (h2 b List.mem_cons_self) e
    have e3 := join_uniq (ps := a2 :: r) (qs := b2 :: s) (by simp) (by simp) (fun p hp => h1 p (List.mem_cons_of_mem _ hp)) (fun p hp => h2 p (List.mem_cons_of_mem _ hp)) (PyProof.Rows.ext_toList e2)
    rw [PyProof.Rows.ext_toList e1,e3]
theorem split_of {c : Nat} {qs : List Str} (h : qs ≠ []) (h2 : ∀ q ∈ qs,c ∉ q.cps.toList) : Txt.split (Str.join ⟨#[c]⟩ qs) ⟨#[c]⟩ = qs :=
  join_uniq (fun e => by have := PyProof.Rows.split_pos (Str.join ⟨#[c]⟩ qs) ⟨#[c]⟩; rw [e] at this; exact absurd this (by decide)) h (StrLaws.split_free _ c) h2 (StrLaws.join_split _ _)
end L2
namespace L2
open PySem PySem.Spec PyProof.Rows
section
variable {M : Model} {A : Around} {E : Value → Shared → Prop} {s : Shared}
theorem leaves_any {base : Heap} {env : Env} {outer : List Env} {L e : Addr} {cls a0 fl : Value} {Q : Unit → Shared → Prop}
    (hfr : A.frames = some (env :: outer)) (hf : env.frame = some L) (f1 : base.StaysIn s.heap) (f2 : base.get? e = none) (f3 : s.heap.FunFrames base (env :: outer)) (f4 : s.heap.TracedAtW base e cls a0 fl)
    (hQ : ∀ h',Heap.FlyingW base outer e cls a0 h' → s.heap.UpToSlots h' → Q () { s with heap := h' }) : wpAny M A (leaving env (.ref e)) Q E s := by
  by_cases c : (fl == rawInt L) = true
  · obtain ⟨oe,vs,T,oT,ts,he,hc0,hd,h1,hnT,hTe,hT,hdT,h3⟩ := id f4
    unfold leaving noteFrame
    simp only [hf]
    refine wpAny_bind (wpAny_bind (wpAny_field he hd h1 ?_))
    rw [if_pos (show (Value.ref T != Value.none) = true from by simp)]
    refine wpAny_bind (wpAny_field hT hdT h3 ?_)
    rw [if_pos c]
    refine wpAny_pure ?_
    exact wpAny_setFlight_noneW f1 f3 f4 fun h' k1 k2 k3 k4 => hQ h' ⟨k1,f2,k2.2.2,k3⟩ fun b o hb hn => ⟨o.slots,k4 b o hb hn⟩
  · obtain ⟨oe,vs,T,oT,ts,he,⟨hcls,h0⟩,hd,h1,hnT,hTe,hT,hdT,h3⟩ := id f4
    subst hcls
    unfold leaving noteFrame
    simp only [hf]
    refine wpAny_bind (wpAny_bind (wpAny_field he hd h1 ?_))
    rw [if_pos (show (Value.ref T != Value.none) = true from by simp)]
    refine wpAny_bind (wpAny_field hT hdT h3 ?_)
    rw [if_neg c]
    refine wpAny_bind (wpAny_setField hT hdT (Array.getElem?_eq_some_iff.mp h3).1 ?_)
    have other : ∀ b,b ≠ T → (s.heap.update T (Obj.mapFields (·.setIfInBounds 3 Value.none))).get? b = s.heap.get? b := fun b hb => Heap.get?_update_other _ _ (Ne.symm hb)
    have noRecord : ∀ b o,s.heap.get? b = some o → (∀ vs,o.data ≠ .fields vs) → b ≠ T := fun b o hb hnf q => by
      rw [q,hT] at hb; injection hb with hb; subst hb; exact hnf ts hdT
    refine wpAny_newEntryW hfr (f3.of_keeps fun b o hb hnf => ⟨o,(other b (noRecord b o hb hnf)).trans hb,rfl⟩) hf ((other e (Ne.symm hTe)).trans he)
      (fun b o hbo => (other b fun q => by rw [q,hnT] at hbo; cases hbo).trans (f1 b o hbo)) f2 hd (Array.getElem?_eq_some_iff.mp h1).1 h0
      fun h' ⟨x1,⟨_,_,x2⟩,x3,x4⟩ => hQ h' ⟨x1,f2,x2,x3⟩ fun b o hb hnf => x4 b o ((other b (noRecord b o hb hnf)).trans hb) hnf
theorem flight_any {base : Heap} {l : List Env} {e : Addr} {cls a0 fl : Value} {fr : Option Addr} {Q : Unit → Shared → Prop}
    (hkb : base.StaysIn s.heap) (hl : s.heap.FunFrames base l) (ht : s.heap.TracedAtW base e cls a0 fl)
    (h : ∀ h',base.StaysIn h' → h'.FunFrames base l → h'.TracedAtW base e cls a0 (fr.elim Value.none fun f => rawInt f) → (∀ b o,s.heap.get? b = some o → (∀ vs,o.data ≠ .fields vs) → h'.get? b = some o) → Q () { s with heap := h' }) :
    wpAny M A (setFlight (.ref e) fr) Q E s := by
  obtain ⟨oe,vs,T,oT,ts,he,hcls,hd,h1,hnT,hTe,hT,hdT,h3⟩ := ht
  have hsz3 : 3 < ts.size := (Array.getElem?_eq_some_iff.mp h3).1
  have other : ∀ b,b ≠ T → (s.heap.update T (Obj.mapFields (·.setIfInBounds 3 (fr.elim Value.none fun f => rawInt f)))).get? b = s.heap.get? b :=
    fun b hb => Heap.get?_update_other _ _ (Ne.symm hb)
  have noRecord : ∀ b o,s.heap.get? b = some o → (∀ vs,o.data ≠ .fields vs) → b ≠ T := fun b o hb hnf q => by
    rw [q,hT] at hb; injection hb with hb; subst hb; exact hnf ts hdT
  unfold setFlight
  refine wpAny_bind (wpAny_field he hd h1 ?_)
  rw [if_pos (show (Value.ref T != Value.none) = true from by simp)]
  refine wpAny_setField hT hdT hsz3 (h _ (fun b o hbo => (other b fun q => by rw [q,hnT] at hbo; cases hbo).trans (hkb b o hbo))
    (hl.of_keeps fun b o hb hnf => ⟨o,(other b (noRecord b o hb hnf)).trans hb,rfl⟩) ?_ fun b o hb hnf => (other b (noRecord b o hb hnf)).trans hb)
  exact ⟨oe,vs,T,_,_,(other e (Ne.symm hTe)).trans he,hcls,hd,h1,hnT,hTe,Heap.get?_update_self _ hT (Obj.isFreed_of_fields (Obj.data_mapFields hdT _)),Obj.data_mapFields hdT _,by simp [hsz3]⟩
end
theorem Un.flyF {fs : List Addr} {H H' : Hp} {h h1 h2 B : Heap} (un : Un fs [] H H' h h1) (big : Big B fs H' h) (st1 : B.StaysIn h1) (st2 : B.StaysIn h2)
    (fr : ∀ b ∈ fs,H b = none ∧ ∀ o,h1.get? b = some o → ∃ sl,h2.get? b = some { o with slots := sl }) : Un fs [] H H' h h2 where
  keep := fun b o e n hb hx => by
    have e1 := un.keep b o e n hb hx
    obtain ⟨ob,eb⟩ := big.old b o e hb
    have e2 := st1 b ob eb
    rw [e1] at e2
    cases e2
    exact st2 b _ eb
  slot := fun b o e n hb hx => by
    obtain ⟨s1,e1⟩ := un.slot b o e n hb hx
    obtain ⟨s2,e2⟩ := (fr b hb).2 _ e1
    exact ⟨s2,e2⟩
  free := un.free
  there := fun b o e hx => by
    by_cases hb : b ∈ fs
    · obtain ⟨s1,e1⟩ := un.slot b o e (fr b hb).1 hb hx
      obtain ⟨s2,e2⟩ := (fr b hb).2 _ e1
      exact ⟨_,e2⟩
    · obtain ⟨ob,eb⟩ := big.old b o e hb
      exact ⟨_,st2 b ob eb⟩
  tups := un.tups
  frzs := un.frzs
  tbls := un.tbls
theorem frames_less {h h' base base' : Heap} : ∀ {l : List Env},h.FunFrames base l → (∀ b,base.get? b = none → base'.get? b = none) → (∀ b ∈ frs l,∀ o,h.get? b = some o → h'.get? b = some o) → h'.FunFrames base' l
  | [],_,_,_ => trivial
  | env :: r,⟨hk,⟨L,o,hf,hn,ho,hd⟩,hr⟩,h1,h2 => ⟨hk,⟨L,o,hf,h1 L hn,h2 L (List.mem_filterMap.mpr ⟨env,.head _,hf⟩) o ho,hd⟩,frames_less hr h1 fun b hb o e => h2 b (by
      obtain ⟨x,hx,hy⟩ := List.mem_filterMap.mp hb
      exact List.mem_filterMap.mpr ⟨x,.tail _ hx,hy⟩) o e⟩
theorem ns_slots {h h' : Heap} {C : Addr} {m : Str → Option Value} (n : h.Ns C m) (up : h.UpToSlots h') : h'.Ns C m := by
  obtain ⟨o,es,ep,ho,hd,hr⟩ := n
  obtain ⟨sl,e⟩ := up C o ho (fun vs z => by rw [hd] at z; cases z)
  exact ⟨_,es,ep,e,hd,hr⟩
end L2
namespace L2
open PySem PySem.Spec PyProof.Rows
section
variable {P : Program} {w : World} {K : PySem.W.Frag} {mg : Str → Option Value} {base : Heap} {N : List Str} {qual : Str} {scope : Scope} {f : Addr} {cdv : Value} {A : Around} {outer : List Env} {s₀ : Shared} {H₀ : Hp} {E : XK}
def CompErr (M : Model) (A : Around) (E : Value → Shared → Prop) (C : Addr) (ev : Value) (s' : Shared) : Prop :=
  ∃ m,s'.heap.Ns C m ∧ ∀ h',Heap.SameBut C s'.heap h' → ∀ cenv : Env,cenv.locals = C → wpAny M A (PySem.passOn "comprehension.variables-let-go" ev cenv : Sem Value) (fun _ _ => False) E { s' with heap := h' }
theorem hide_one {B : Heap} {C b : Addr} {o : Obj} (e : (PySem.W.hideAll B [C]).get? b = some o) : b ≠ C ∧ B.get? b = some o := by
  refine ⟨fun z => ?_,PySem.W.of_hideAll _ e⟩
  subst z
  rw [PySem.W.hideAll_none _ (List.mem_singleton.mpr rfl)] at e
  cases e
theorem hide_none {B : Heap} {C b : Addr} (e : B.get? b = none) : (PySem.W.hideAll B [C]).get? b = none := by
  cases q : (PySem.W.hideAll B [C]).get? b with
  | none => rfl
  | some o =>
    rw [(hide_one q).2] at e
    cases e
theorem pass_comp {E1 : XK} {pins : List (Addr × Obj)} {σ : St} {H : Hp} {s s' : Shared} {ev : Value} {C : Addr} {m : Str → Option Value} {cenv : Env} (I : Inv (cxOf (CXE P w) P w K mg base N qual scope f cdv A outer s₀ H₀ E) pins σ H s)
    (h : CXE P w (cxOf (CXE P w) P w K mg base N qual scope f cdv A outer s₀ H₀ E).stack H s E1 ev s') (hE : ∀ c o H',E1 c o H' → E c o H')
    (hcf : cenv.frame = (cxOf (CXE P w) P w K mg base N qual scope f cdv A outer s₀ H₀ E).env.frame) (hns : s.heap.Ns C m) (hCn : H C = none) (hCs : C ∉ frs (cxOf (CXE P w) P w K mg base N qual scope f cdv A outer s₀ H₀ E).stack) (hC0 : s₀.heap.objs.size ≤ C) :
    notedBy (model P w) (cxOf (CXE P w) P w K mg base N qual scope f cdv A outer s₀ H₀ E).A cenv (CompErr (model P w) (cxOf (CXE P w) P w K mg base N qual scope f cdv A outer s₀ H₀ E).A (cxOf (CXE P w) P w K mg base N qual scope f cdv A outer s₀ H₀ E).xe C) ev s' := by
  obtain ⟨ea,t,cls,H',B,rfl,os,bare,un,hok,fl,big,q⟩ := h
  have ns1 : s'.heap.Ns C m := by
    obtain ⟨o,es,ep,ho,hd,hr⟩ := hns
    exact ⟨o,es,ep,un.keep C o ho hCn hCs (by simp),hd,hr⟩
  have hC' : H' C = none := by
    obtain ⟨o,es,ep,ho,hd,hr⟩ := hns
    exact un.free C o ho hCn (by simp)
  unfold notedBy
  have en : noteFrame (.ref ea) cenv = noteFrame (.ref ea) (cxOf (CXE P w) P w K mg base N qual scope f cdv A outer s₀ H₀ E).env := by
    unfold noteFrame PySem.frameOf
    rw [hcf]
  rw [en]
  refine wpAny_looks_onW (L := s₀.heap.objs.size) I.ok.frames rfl fl fun h4 hheld up4 => ?_
  have ns4 : h4.Ns C m := ns_slots ns1 up4
  refine ⟨m,ns4,fun h5 sb cenv' _ => ?_⟩
  obtain ⟨k1,k2,k3,k4⟩ := hheld
  have ndC : ∀ b o,h4.get? b = some o → ∀ vs,o.data = .fields vs → b ≠ C := fun b o eb vs hd z => by
    subst z
    obtain ⟨o2,es,ep,ho2,hd2,_⟩ := ns4
    rw [eb] at ho2
    cases ho2
    rw [hd] at hd2
    cases hd2
  have st5 : (PySem.W.hideAll B [C]).StaysIn h5 := fun b o eb => (sb.2 b (hide_one eb).1).trans (k1 b o (hide_one eb).2)
  have ff5 : h5.FunFrames (PySem.W.hideAll B [C]) (cxOf (CXE P w) P w K mg base N qual scope f cdv A outer s₀ H₀ E).stack := frames_less k3 (fun b z => hide_none z) fun b hb o e => (sb.2 b (fun z => hCs (z ▸ hb))).trans e
  have tr5 : h5.TracedAtW (PySem.W.hideAll B [C]) ea cls (.ref t) (rawInt s₀.heap.objs.size) := by
    obtain ⟨oe,vs,T,oT,ts,he,hcls,hd,h1,hnT,hTe,hT,hdT,h3⟩ := k4
    exact ⟨oe,vs,T,oT,ts,(sb.2 _ (ndC _ _ he _ hd)).trans he,hcls,hd,h1,hide_none hnT,hTe,(sb.2 _ (ndC _ _ hT _ hdT)).trans hT,hdT,h3⟩
  unfold PySem.passOn
  obtain ⟨oe,vs,T,oT,ts,he,hcls,hd,h1,hnT,hTe,hT,hdT,h3⟩ := id tr5
  refine wpAny_bind (wpAny_field (s := { s' with heap := h5 }) he hd h1 ?_)
  rw [if_neg (show ¬ ((Value.ref T == Value.none) = true) by simp)]
  refine wpAny_bind (flight_any (s := { s' with heap := h5 }) st5 ff5 tr5 fun h6 st6 ff6 tr6 kp6 => ?_)
  refine wpAny_throw ?_
  refine leaves_any (s := { s' with heap := h6 }) (L := s₀.heap.objs.size) I.ok.frames rfl st6 (hide_none k2) ff6 tr6 fun h7 fl7 up7 => ?_
  have out : ∀ x o,s₀.heap.get? x = some o → x ∈ frs (cxOf (CXE P w) P w K mg base N qual scope f cdv A outer s₀ H₀ E).stack → x ∈ frs outer := fun x o ex hm => by
    rcases List.mem_cons.mp (I.stkSub x hm) with z | z
    · exact absurd z (Nat.ne_of_lt (Nat.lt_of_lt_of_le (Heap.lt_size ex) I.ok.above))
    · exact z
  have sub : ∀ x ∈ frs outer,x ∈ frs (cxOf (CXE P w) P w K mg base N qual scope f cdv A outer s₀ H₀ E).stack := fun x hx => by
    show x ∈ frs (_ :: outer)
    rw [frs_cons (L := s₀.heap.objs.size) rfl]
    exact List.mem_cons_of_mem _ hx
  have un1 : Un (frs outer) [] H₀ H' s₀.heap s'.heap := Un.shed I.base un sub out
  have keepB : ∀ b ob,b ≠ C → B.get? b = some ob → ∃ ob,(PySem.W.hideAll B [C]).get? b = some ob := fun b ob nb eb => ⟨ob,PySem.W.hideAll_get _ eb (by simpa using nb)⟩
  have big1 : Big (PySem.W.hideAll B [C]) (frs outer) H' s₀.heap := by
    refine ⟨fun b o eb => ?_,fun b o eb hb => ?_⟩
    · obtain ⟨ob,z⟩ := big.tr b o eb
      refine keepB b ob (fun e => ?_) z
      subst e
      rw [hC'] at eb
      cases eb
    · obtain ⟨ob,z⟩ := I.base.there b o eb (by intro z; cases z)
      obtain ⟨ob2,z2⟩ := big.old b ob z fun hm => hb (out b o eb hm)
      exact keepB b ob2 (Nat.ne_of_lt (Nat.lt_of_lt_of_le (Heap.lt_size eb) hC0)) z2
  have st1 : (PySem.W.hideAll B [C]).StaysIn s'.heap := fun b o eb => fl.1 b o (hide_one eb).2
  refine ⟨ea,t,cls,H',PySem.W.hideAll B [C],rfl,os.trans I.os,bare,Un.flyF un1 big1 st1 fl7.1 fun b hb => ⟨I.ok.frf b hb,fun o eo => ?_⟩,HOk.fly hok big1 st1 fl7.1,fl7,big1,hE _ _ _ q⟩
  have nf : ∀ vs,o.data ≠ .fields vs := by
    obtain ⟨_,o2,eo2,nf2⟩ := fl.2.2.1.mem (sub b hb)
    rw [eo] at eo2
    cases eo2
    exact nf2
  obtain ⟨s1,e1⟩ := up4 b o eo nf
  have e5 : h5.get? b = some { o with slots := s1 } := (sb.2 b (fun z => hCs (z ▸ sub b hb))).trans e1
  have e6 := kp6 b _ e5 nf
  obtain ⟨s2,e7⟩ := up7 b _ e6 nf
  exact ⟨s2,e7⟩
end
end L2
namespace L2
open PySem PySem.Spec PyProof.Rows
abbrev Cx.blkX (X : Cx) (Ex : XK) (N' : List Str) (scope : Scope) (cl : List (Str × Addr)) (fp : List Addr) (s₀ : Shared) (H₀ : Hp) : Cx :=
  (X.blk N' scope cl fp s₀ H₀).wish fun ev s' => ∃ (sc : Shared) (Hc : Hp) (τ : St) (pc : List (Addr × Obj)) (E1 : XK),Inv (X.blk N' scope cl fp s₀ H₀) pc τ Hc sc ∧ CXE X.prog X.w X.stack Hc sc E1 ev s' ∧ ∀ c o H',E1 c o H' → Ex c o H'
section
variable {X : Cx} {scope : Scope} {cl : List (Str × Addr)} {x : Str} {fv : List (Str × Nat)} {elt iter : Expr} {px pos : Pos} {te : TE}
theorem blk_runX {pins : List (Addr × Obj)} {σ : St} {H2 : Hp} {s2 : Shared} {it : Addr} {fp : List Addr} {tn : Nat → Heap → Prop} {J : It} {RR : Value → Addr → Result → Shared → Prop} {E : Value → Shared → Prop} {Qf : V → Hp → Prop} {Ex : XK}
    (hcalm : X.calm = true) (C : CompN X scope cl x fv) (I2 : Inv X pins σ H2 s2) (T : Turn X.prog X.w X.K (.Name x px) J fp it tn) (st : tn 0 s2.heap) (f2 : ∀ b ∈ fp,FpOk X pins H2 b)
    (rd : ∀ p,H2 p = none → ∃ W : Nat → Nat → List V → Hp → Prop,(∃ m,W 0 m [] (upd H2 p (.lst []))) ∧ ∀ i m acc H2,W i m acc H2 →
      H2 p = some (.lst acc) ∧ acc.length < sizeLine ∧ ((J.stop i H2 ∧ Qf (.ref p) H2) ∨ (J.go i H2 ∧ ∀ x H3,J.yld i H2 x H3 → te (some x :: fvs fv σ) H3 fun y H4 => H4 p = some (.lst acc) ∧ ∃ m',m' < m ∧ W (i + 1) m' (acc ++ [y]) (upd H4 p (.lst (acc ++ [y]))))))
    (he : ∀ (s₀ : Shared) (H₀ : Hp),PE (X.blkX Ex (x :: fv.map (·.1)) scope cl fp s₀ H₀) elt te)
    (hRR : ∀ (p C : Addr) (H' : Hp) (s' : Shared),(∃ m,s'.heap.Ns C m) → C ≠ X.env.locals → H' C = none → X.s₀.heap.objs.size ≤ C → (∀ y c,X.env.cells.lookup y = some c → c ≠ C) → (∀ q ∈ X.pn ++ pins,q.1 ≠ C) → Inv X pins σ H' s' → Qf (.ref p) H' → RR (.ref p) C (.ok .next) s')
    (hEE : ∀ (p C : Addr) (Hc : Hp) (sc s' : Shared) (ev : Value) (E1 : XK) (m : Str → Option Value) (cenv : Env),Inv X pins σ Hc sc → CXE X.prog X.w X.stack Hc sc E1 ev s' → (∀ c o H',E1 c o H' → Ex c o H') → cenv.frame = X.env.frame → sc.heap.Ns C m → Hc C = none → C ∉ frs X.stack → X.s₀.heap.objs.size ≤ C → notedBy (model X.prog X.w) X.A cenv (fun e s'' => RR (.ref p) C (.error e) s'') ev s') :
    wpAny (model X.prog X.w) X.A (newList []) (fun acc s₃ => wpAny (model X.prog X.w) X.A (newFunctionEnv scope X.env.globals cl [] X.env.qual none .none (some X.env)) (fun cenv s₄ =>
      codeAny (model X.prog X.w) X.A (.compStart (.ListComp elt [⟨.Name x px,iter,[],0⟩] scope pos) 0 (.ref it) acc { cenv with scope := relabel scope X.env }) (RR acc cenv.locals) s₄) E s₃) E s2 := by
  refine wpAny_newObj_type ?_
  have hfresh := I2.fresh
  have I3 : Inv X pins σ (upd H2 s2.heap.objs.size (.lst [])) { s2 with heap := s2.heap.push { cls := .type "list",data := .seq ([] : List Value).toArray } } :=
    I2.laid (t' := s2.toks) (fun b u q => Heap.get?_push_of_some _ q) (Nat.le_refl _) ⟨Nat.zero_le _,[],0,.nil,Heap.get?_push_size _ rfl⟩
  generalize hs3 : ({ s2 with heap := s2.heap.push { cls := .type "list",data := .seq ([] : List Value).toArray } } : Shared) = s3 at I3 ⊢
  have hp3 : s2.heap.objs.size < s3.heap.objs.size := by rw [← hs3]; exact Nat.lt_of_lt_of_le (Nat.lt_succ_self _) (Nat.le_of_eq (Heap.size_push _ _).symm)
  have k23 : ∀ b o,s2.heap.get? b = some o → s3.heap.get? b = some o := fun b o e => by rw [← hs3]; exact Heap.get?_push_of_some _ e
  have fpo : ∀ b ∈ fp,b < s2.heap.objs.size := fun b hb => by
    obtain ⟨o,e,_⟩ := T.obj 0 _ st b hb
    exact Heap.lt_size e
  have f3 : ∀ b ∈ fp,FpOk X pins (upd H2 s2.heap.objs.size (.lst [])) b := fun b hb => ⟨by rw [upd_ne (Nat.ne_of_lt (fpo b hb))]; exact (f2 b hb).1,(f2 b hb).2⟩
  refine wpAny_newFunctionEnv C.cell (by intro y hy; simp at hy) (fun h1 hns1 hsb1 => ?_) C.kind
  have kp : ∀ b o,s3.heap.get? b = some o → h1.get? b = some o := fun b o e => (hsb1.2 b (Nat.ne_of_lt (Heap.lt_size e))).trans (Heap.get?_push_of_some _ e)
  have I4 := blk_inv (s4 := { s3 with heap := h1,toks := s3.toks + ([] : List (Str × Value)).length }) C I3 f3 (fun b hb => Nat.lt_trans (fpo b hb) hp3) ⟨rfl,rfl⟩ hns1 kp
  have st4 : tn 0 h1 := T.keep 0 _ _ st fun b _ o e => kp b o (k23 b o e)
  obtain ⟨W,⟨m0,w0⟩,step⟩ := rd _ hfresh
  have loop : codeAny (model X.prog X.w) X.A (.compLoop (.ListComp elt [⟨.Name x px,iter,[],0⟩] scope pos) 0 (.ref it) (.ref s2.heap.objs.size) (compEnvC scope cl s3.heap.objs.size X.env)) (RR (.ref s2.heap.objs.size) s3.heap.objs.size)
      { s3 with heap := h1,toks := s3.toks + ([] : List (Str × Value)).length } := by
    refine codeAny_compLoop_list (fun n s => ∃ i acc σv H',Inv (X.blk (x :: fv.map (·.1)) scope cl fp s3 (upd H2 s2.heap.objs.size (.lst []))) [] (σv :: fvs fv σ) H' s ∧ tn i s.heap ∧ (∀ b ∈ fp,H' b = none) ∧ W i n acc H') ?_ m0 ⟨0,[],none,_,I4,st4,fun b hb => (f3 b hb).1,w0⟩
    rintro n s ⟨i,acc,σv,H',I',st',fr',w'⟩
    obtain ⟨hp,hlen,alt⟩ := step i n acc H' w'
    have fpk : ∀ {H5 : Hp},(∀ b ∈ fp,H5 b = none) → ∀ b ∈ fp,FpOk (X.blk (x :: fv.map (·.1)) scope cl fp s3 (upd H2 s2.heap.objs.size (.lst []))) [] H5 b := fun h5 b hb =>
      ⟨h5 b hb,(I'.ok.exf b hb).1,I'.ok.exfs b hb,.inl hb,fun y c e => (I'.ok.exf b hb).2 y c e,fun q hq => by simp at hq⟩
    rcases alt with ⟨stop,qf⟩ | ⟨go,turn⟩
    · refine wpAny_mono (T.done (X.blk (x :: fv.map (·.1)) scope cl fp s3 (upd H2 s2.heap.objs.size (.lst []))) rfl rfl rfl hcalm i [] s _ H' (fun _ _ => False) I' (fpk fr') st' stop) (fun r s5 ⟨hr,I5⟩ => ?_) fun _ _ z => False.elim z
      subst hr
      refine hRR _ _ H' s5 (let ⟨m,hn,_⟩ := I5.loc; ⟨m,hn⟩) (Nat.ne_of_gt I3.lt) I5.free I3.sz (fun y c e => ?_) (fun q hq => ?_) ?_ qf
      · obtain ⟨v,z⟩ := I3.cell y c e
        exact Nat.ne_of_lt z.lt
      · exact Nat.ne_of_lt (Heap.lt_size (I3.pin q hq).1)
      · exact I3.call' (s' := s5) (ch := fp) I5.os I5.base I5.hok I5.bare fun b hb => ⟨(f2 b hb).2.2.2.1,(f2 b hb).2.1,(f2 b hb).2.2.2.2.1,(f2 b hb).2.2.2.2.2⟩
    · refine wpAny_mono (T.item (X.blk (x :: fv.map (·.1)) scope cl fp s3 (upd H2 s2.heap.objs.size (.lst []))) rfl rfl rfl hcalm i [] s _ H' (fun _ _ => False) I' (fpk fr') st' go) (fun r s5 ⟨u,hr,h5⟩ => ?_) fun _ _ z => False.elim z
      subst hr
      have e5 : assign (.Name x px) (compEnvC scope cl s3.heap.objs.size X.env) u = (letOwnedTupleGo (.Name x px) (.ref it) u >>= fun _ => assign (.Name x px) (compEnvC scope cl s3.heap.objs.size X.env) u) := by
        rw [show letOwnedTupleGo (.Name x px) (.ref it) u = pure () from rfl]
        rfl
      show wpAny _ _ (assign (.Name x px) (compEnvC scope cl s3.heap.objs.size X.env) u) _ _ _
      rw [e5]
      refine wpAny_bind (wpAny_mono h5 (fun _ s6 ⟨y,H6,I6,r6,y6,st6,fr6⟩ => ?_) fun _ _ z => False.elim z)
      have I6' := I6.pinned (fpk fr6) (T.obj _ _ st6)
      have lx : (relabel scope X.env).names.lookup x = some .local := lookup_relabel_local C.own
      refine wpAny_mono (pg_name (X := X.blk (x :: fv.map (·.1)) scope cl fp s3 (upd H2 s2.heap.objs.size (.lst []))) (i := 0) C.nd rfl (.inl lx) (.inr lx) _ s6 _ H6 y u (fun σ7 H7 => σ7 = some y :: fvs fv σ ∧ H7 = H6) I6' r6 ⟨rfl,rfl⟩) (fun _ s7 ⟨σ7,H7,I7,e7,e7'⟩ => ?_) fun _ _ z => False.elim z
      subst e7 e7'
      refine wpAny_mono (he s3 _ _ s7 _ _ _ (I7.wish _) (turn y _ y6)) (fun v8 s8 ⟨y8,H8,I8',r8,q8,m',hm',w8⟩ => ?_) fun ev s8 z => ?_
      rotate_left
      · obtain ⟨sc,Hc,τ,pc,E1,Ic,cx,hE⟩ := z
        have J : Inv X pins σ Hc sc := I3.call' (s' := sc) (ch := fp) Ic.os Ic.base Ic.hok Ic.bare fun b hb => ⟨(f2 b hb).2.2.2.1,(f2 b hb).2.1,(f2 b hb).2.2.2.2.1,(f2 b hb).2.2.2.2.2⟩
        obtain ⟨mc,hmc,_⟩ := Ic.loc
        refine hEE _ _ Hc sc s8 ev E1 mc _ J cx hE rfl hmc Ic.free (fun hb => ?_) I3.sz
        obtain ⟨_,o,ho,_⟩ := I3.stack.mem hb
        exact absurd (Heap.lt_size ho) (Nat.lt_irrefl _)
      have I8 := I8'.unwish
      refine wpAny_mono (mt_append (X := X.blk (x :: fv.map (·.1)) scope cl fp s3 (upd H2 s2.heap.objs.size (.lst []))) _ s8 _ H8 (.ref s2.heap.objs.size) [y8] (.ref s2.heap.objs.size) [v8] (fun _ H9 => H9 = upd H8 s2.heap.objs.size (.lst (acc ++ [y8]))) I8 rfl (.cons r8 .nil) ⟨_,acc,y8,rfl,rfl,q8,hlen,rfl⟩) (fun _ s9 ⟨_,H9,I9,_,e9⟩ => ?_) fun _ _ z => False.elim z
      subst e9
      refine ⟨m',hm',i + 1,acc ++ [y8],some y,_,I9.unpinned,T.keep _ _ _ st6 fun b hb o e => (I9.pin (b,o) (List.mem_append_right _ (List.mem_append_right _ (mem_pinsAt hb e)))).1,fun b hb => ?_,w8⟩
      obtain ⟨o,e,d⟩ := T.obj _ _ st6 b hb
      exact (I9.pin (b,o) (List.mem_append_right _ (List.mem_append_right _ (mem_pinsAt hb e)))).2.1
  exact codeAny_compStart_list loop (T.self _ 0 _ _ _ st4 loop)
end
section
variable {P : Program} {w : World} {K : PySem.W.Frag} {mg : Str → Option Value} {base : Heap} {N : List Str} {qual : Str} {scope' : Scope} {f : Addr} {cdv : Value} {A : Around} {outer : List Env} {s₀ : Shared} {H₀ : Hp} {E : XK}
variable {scope : Scope} {cl : List (Str × Addr)} {x : Str} {fv : List (Str × Nat)} {elt iter : Expr} {px pos : Pos} {te : TE}
theorem pe_fxB {X : Cx} {Ex : XK} {N' : List Str} {fp : List Addr} {s₁ : Shared} {H₁ : Hp} {y : Str} {ps : List Str} {k : Nat} {ds : List V} {sp : Sp} {p pos : Pos} {e : Expr} {es : List Expr} {t : TA} (F : Fx X.prog X.w X.K X.mg X.base y ps k ds sp) (hr : Room k X.A) (hg : Gl (X.blkX Ex N' scope cl fp s₁ H₁) y) (ha : PA (X.blkX Ex N' scope cl fp s₁ H₁) (e :: es) t)
    (hdb : (y == ("__debug__" : Str)) = false := by decide) (he : starEach (e :: es) (X.blkX Ex N' scope cl fp s₁ H₁).env = (false,eval e (X.blkX Ex N' scope cl fp s₁ H₁).env) :: starEach es (X.blkX Ex N' scope cl fp s₁ H₁).env := by rfl) (hpl : (backTo pos (starEach es (X.blkX Ex N' scope cl fp s₁ H₁).env)).any (·.1) = false := by rfl) :
    PE (X.blkX Ex N' scope cl fp s₁ H₁) (.Call (.Name y p) (e :: es) [] pos) (tCall sp [] Ex t) := by
  obtain ⟨g,fd,its,hm,hk,hb,_,_,G⟩ := F.ex
  exact pe_call G hr hg hm hk hb .nil (fun pins σ H s e s' I h => ⟨s,H,σ,pins,Ex,I.unwish,h,fun _ _ _ z => z⟩) ha hdb he hpl
theorem ps_setCompX {wi : TI} {y : Str} {j : Nat} {py spos : Pos} (C : CompN (cxOf (CXE P w) P w K mg base N qual scope' f cdv A outer s₀ H₀ E) scope cl x fv) (hN : N.Nodup) (hj : N[j]? = some y) (hy : (cxOf (CXE P w) P w K mg base N qual scope' f cdv A outer s₀ H₀ E).env.scope.names.lookup y = some .local)
    (hi : PI (cxOf (CXE P w) P w K mg base N qual scope' f cdv A outer s₀ H₀ E) (.Name x px) iter wi) (he : ∀ (fp : List Addr) (s₁ : Shared) (H₁ : Hp),PE ((cxOf (CXE P w) P w K mg base N qual scope' f cdv A outer s₀ H₀ E).blkX E (x :: fv.map (·.1)) scope cl fp s₁ H₁) elt te)
    (hsw : swapsWith (.ListComp elt [⟨.Name x px,iter,[],0⟩] scope pos) (some (.Name y py)) spos.line (cxOf (CXE P w) P w K mg base N qual scope' f cdv A outer s₀ H₀ E).env = pure true := by rfl)
    (hs : ∀ v,foldedSetIterable iter (cxOf (CXE P w) P w K mg base N qual scope' f cdv A outer s₀ H₀ E).env v = pure v := by intro _; rfl) : PS (cxOf (CXE P w) P w K mg base N qual scope' f cdv A outer s₀ H₀ E) (.Assign [.Name y py] (.ListComp elt [⟨.Name x px,iter,[],0⟩] scope pos) spos) (tAsg (tCompA wi fv te) (gName j)) := by
  intro pins s σ H D I h
  rw [exec_Assign_Name_used _ _ _ _ hsw]
  refine wpAny_bind (wpAny_standAt (wpAny_bind ?_))
  show wpAny _ _ (do let _ ← comprehension (.ListComp elt [⟨.Name x px,iter,[],0⟩] scope pos) scope (cxOf (CXE P w) P w K mg base N qual scope' f cdv A outer s₀ H₀ E).env _ (newList []) false (eval iter (cxOf (CXE P w) P w K mg base N qual scope' f cdv A outer s₀ H₀ E).env) (some (assign (.Name y py) (cxOf (CXE P w) P w K mg base N qual scope' f cdv A outer s₀ H₀ E).env))) _ _ s
  refine wpAny_bind (wpAny_mono (wpAny_comprehension_free (use := some (assign (.Name y py) (cxOf (CXE P w) P w K mg base N qual scope' f cdv A outer s₀ H₀ E).env)) (Q := fun _ s' => SP (cxOf (CXE P w) P w K mg base N qual scope' f cdv A outer s₀ H₀ E) pins D .next s') rfl hs C.clos C.kind C.names
    (wpAny_mono (hi pins s σ H _ I h) (fun v s1 h1 => wpAny_mono h1 (fun itv s2 h2 => ?_) fun _ _ z => z) fun _ _ z => z)) (fun _ s' hq => wpAny_pure (wpAny_pure hq)) fun _ _ z => z)
  obtain ⟨it,fp,tn,J,H2,rfl,I2,T,st2,f2,rd⟩ := h2
  refine blk_runX (Ex := E) (Qf := fun v H' => gName j v σ H' D.nx) rfl C I2 T st2 f2 rd (he fp) (fun p D' H' s' ns nL nH n0 nC nP I8 q => ?_) fun p D' Hc sc s' ev E1 m cenv Ic cx hE hcf hns hCn hCs hC0 => pass_comp Ic cx hE hcf hns hCn hCs hC0
  obtain ⟨m,hn⟩ := ns
  show wpAny _ _ (assign (.Name y py) (cxOf (CXE P w) P w K mg base N qual scope' f cdv A outer s₀ H₀ E).env (.ref p)) _ _ _
  refine wpAny_assign_Name (store_ok2 I8 hN hj (.inl hy) (v := .ref p) rfl (fun s9 I9 ⟨a,sb,ha⟩ => ?_) (.inr hy))
  have aD : D' ≠ a := by
    rintro rfl
    rcases ha with z | z
    · exact nL z
    · exact nC y _ z rfl
  exact ⟨m,hn.sameBut sb aD,fun h'' sb2 => ⟨_,H',I9.turned (t' := s9.toks) (fun b o hb e => (sb2.2 b hb).trans e) nH nL (.inr n0) nC nP,q⟩⟩
theorem pe_compX {wi : TI} (C : CompN (cxOf (CXE P w) P w K mg base N qual scope' f cdv A outer s₀ H₀ E) scope cl x fv)
    (hi : PI (cxOf (CXE P w) P w K mg base N qual scope' f cdv A outer s₀ H₀ E) (.Name x px) iter wi) (he : ∀ (fp : List Addr) (s₁ : Shared) (H₁ : Hp),PE ((cxOf (CXE P w) P w K mg base N qual scope' f cdv A outer s₀ H₀ E).blkX E (x :: fv.map (·.1)) scope cl fp s₁ H₁) elt te)
    (hs : ∀ v,foldedSetIterable iter (cxOf (CXE P w) P w K mg base N qual scope' f cdv A outer s₀ H₀ E).env v = pure v := by intro _; rfl) : PE (cxOf (CXE P w) P w K mg base N qual scope' f cdv A outer s₀ H₀ E) (.ListComp elt [⟨.Name x px,iter,[],0⟩] scope pos) (tCompA wi fv te) := by
  intro pins s σ H Q I h
  rw [eval_ListComp]
  refine wpAny_comprehension_free (use := none) rfl hs C.clos C.kind C.names (wpAny_mono (hi pins s σ H _ I h) (fun v s1 h1 => wpAny_mono h1 (fun itv s2 h2 => ?_) fun _ _ z => z) fun _ _ z => z)
  obtain ⟨it,fp,tn,J,H2,rfl,I2,T,st2,f2,rd⟩ := h2
  refine blk_runX (Ex := E) (Qf := Q) rfl C I2 T st2 f2 rd (he fp) (fun p D H' s' ns nL nH n0 nC nP I8 q => ?_) fun p D' Hc sc s' ev E1 m cenv Ic cx hE hcf hns hCn hCs hC0 => pass_comp Ic cx hE hcf hns hCn hCs hC0
  obtain ⟨m,hn⟩ := ns
  exact ⟨m,hn,fun h'' sb => ⟨.ref p,H',I8.turned (t' := s'.toks) (fun b o hb e => (sb.2 b hb).trans e) nH nL (.inr n0) nC nP,rfl,q⟩⟩
end
end L2
namespace L2
open PySem PySem.Spec PyProof.Rows
theorem comp_RB {K : PySem.W.Frag} {a : Addr} {xs : List V} {fv : List (Str × Nat)} {te : TE} {σ : St} {H1 : Hp} {Q : VK} (hL : SqL K H1 a xs) (hlen : xs.length < 1000000) (R : Nat → V → Hp → Prop) (hR : ∀ i v H H',SameT H H' → R i v H → R i v H')
    (hs : ∀ i x H2 (Kc : VK),xs[i]? = some x → Same H1 H2 → (∀ y H4,Same H2 H4 → R i y H4 → Kc y H4) → te (some x :: fvs fv σ) H2 Kc)
    (hd : ∀ l ys H',H1 l = none → Same H1 H' → H' l = some (.lst ys) → ys.length = xs.length → (∀ i y,ys[i]? = some y → R i y H') → Q (.ref l) H') :
    CompAt (Itl K a) fv te σ H1 Q := by
  intro l hl
  have hz : sizeLine = 16777216 := sizeLine_eq
  refine comp_list (K := K) (a := a) (xs := xs) (l := l) (fv := fv) (Qp := fun H2 => Q (.ref l) H2) (fun i acc H2 => acc.length = i ∧ Same H1 H2 ∧ H2 l = some (.lst acc) ∧ ∀ j y,acc[j]? = some y → R j y H2)
    ⟨rfl,Same.new hl,upd_same,fun j y h => by simp at h⟩ ?_ ?_ ?_
  · rintro i acc H2 hi ⟨e1,sm,e3,_⟩
    exact ⟨sm.seq hL,e3,by omega⟩
  · rintro i x acc H2 Kc hx ⟨e1,sm,e3,hr⟩ kk
    refine hs i x H2 Kc hx sm fun y H4 s4 ry => kk y H4 (s4 _ _ e3) ⟨by simp [e1],(sm.trans s4).upd hl,upd_same,fun j z hz => ?_⟩
    have t4 := SameT.upd (ys := acc ++ [y]) (s4 _ _ e3)
    rcases Nat.lt_trichotomy j acc.length with h | h | h
    · rw [List.getElem?_append_left h] at hz
      exact hR _ _ _ _ (s4.t.trans t4) (hr j z hz)
    · subst h
      rw [List.getElem?_append_right (Nat.le_refl _),Nat.sub_self] at hz
      cases hz
      rw [e1]
      exact hR _ _ _ _ t4 ry
    · rw [List.getElem?_eq_none (by simp; omega)] at hz
      cases hz
  · rintro acc H2 ⟨e1,sm,e3,hr⟩
    exact hd l acc H2 hl sm e3 e1 hr
end L2
namespace L2
open PySem PySem.Spec PyProof.Rows PySem.NumText
section
variable {X : Cx}
end
end L2
namespace Hd
open PySem PySem.W PySem.Spec L2
def live (o : Obj) : Bool := match o.data with
  | .freed => false
  | _ => true
def nums : Nat → List Obj → Frag
  | _,[] => []
  | n,a :: r => bif live a then (n,a) :: nums (n + 1) r else nums (n + 1) r
theorem nums_at : ∀ (l : List Obj) (n a : Nat) (o : Obj),(nums n l).lookup a = some o → n ≤ a ∧ l[a - n]? = some o ∧ live o = true
  | [],_,_,_,e => by cases e
  | x :: r,n,a,o,e => by
    have up : (nums (n + 1) r).lookup a = some o → n ≤ a ∧ (x :: r)[a - n]? = some o ∧ live o = true := fun e => by
      obtain ⟨h1,h2,h3⟩ := nums_at r (n + 1) a o e
      refine ⟨by omega,?_,h3⟩
      have : a - n = (a - (n + 1)) + 1 := by omega
      rw [this]
      exact h2
    unfold nums at e
    cases hl : live x with
    | false =>
      rw [hl] at e
      exact up e
    | true =>
      rw [hl,cond_true,List.lookup_cons] at e
      cases hb : a == n with
      | true =>
        rw [hb] at e
        have hb := beq_iff_eq.mp hb
        subst hb
        cases e
        exact ⟨Nat.le_refl _,by simp,hl⟩
      | false =>
        rw [hb] at e
        exact up e
def frag (h : Heap) : Frag := nums 0 h.objs.toList
theorem frag_in (h : Heap) : (frag h).In h := by
  intro a o e
  obtain ⟨_,q,hl⟩ := nums_at _ _ _ _ e
  have q : h.objs[a]? = some o := by simpa using q
  unfold Heap.get?
  rw [q]
  obtain ⟨c,d,dt,sl⟩ := o
  cases dt <;> first | rfl | cases hl
def fnFact (K : Frag) (x : Str) : Option (Arguments × List Stmt × Scope × Value) := match nsIn K mainGlobals x with
  | some (some (.ref f)) => (match K.lookup f with
    | some ⟨_,_,.func fd,_⟩ => (match fd.body,fd.closure with
      | .stmts b,[] => bif (fd.name == x && (fd.qualname == x && (Nat.beq fd.globals mainGlobals && (Nat.beq fd.builtins builtinsNs && codeIn K fd.code x)))) then some (fd.params,b,fd.scope,fd.defaults) else none
      | _,_ => none)
    | _ => none)
  | _ => none
theorem fnFact_spec {K : Frag} {x : Str} {a : Arguments} {b : List Stmt} {sc : Scope} {dv : Value} (e : fnFact K x = some (a,b,sc,dv)) :
    ∃ (f : Addr) (oc : Value) (od : Option Addr) (kV doc pm : Value) (an : Option Addr) (cdv ct : Value) (osl : Array (Option Value)),
      nsIn K mainGlobals x = some (some (.ref f)) ∧ K.lookup f = some ⟨oc,od,.func (fnOf x x a b sc dv kV doc pm an cdv ct),osl⟩ ∧ codeIn K cdv x = true ∧ keepIn K (.ref f) = true := by
  unfold fnFact at e
  split at e
  · rename_i f hf
    split at e
    · rename_i oc od fd osl hl
      split at e
      · rename_i b' hb hc
        cases hq : (fd.name == x && (fd.qualname == x && (Nat.beq fd.globals mainGlobals && (Nat.beq fd.builtins builtinsNs && codeIn K fd.code x)))) with
        | false => rw [hq] at e; cases e
        | true =>
          rw [hq] at e
          simp only [Bool.and_eq_true] at hq
          obtain ⟨h1,h2,h3,h4,h5⟩ := hq
          replace h1 := eq_of_beq h1
          replace h2 := eq_of_beq h2
          replace h3 := Nat.eq_of_beq_eq_true h3
          replace h4 := Nat.eq_of_beq_eq_true h4
          simp only [cond_true,Option.some.injEq,Prod.mk.injEq] at e
          obtain ⟨e1,e2,e3,e4⟩ := e
          obtain ⟨n,qn,ps,bd,s,gl,cl,df,kw,dc,pm,an,cd,ct,bl⟩ := fd
          simp only at h1 h2 h3 h4 h5 e1 e2 e3 e4 hb hc
          subst h1 h2 h3 h4 e1 e2 e3 e4 hb hc
          refine ⟨f,oc,od,kw,dc,pm,an,cd,ct,osl,hf,hl,h5,?_⟩
          unfold keepIn
          dsimp only
          rw [hl]
      · cases e
    · cases e
  · cases e
theorem df_of {K : Frag} {mg : Str → Option Value} {h : Heap} {x : Str} {st : Stmt} (X : K.In h) (G : h.Ns mainGlobals mg) (e : fnFact K x = some (defArgs st,defBody st,defScope st,.none)) : Df K mg x st := by
  obtain ⟨f,oc,od,kV,doc,pm,an,cdv,ct,osl,h1,h2,h3,h4⟩ := fnFact_spec e
  exact df_mk X G h1 h2 h3 h4
def bareV : Value → V
  | .none => .non
  | .bool b => .bl b
  | .int i _ => .int i
  | .str x _ => .str x
  | .bytes b _ => .byt b
  | .float b _ => .flt b
  | .ref a => .ref a
  | .type n => .ty n
  | _ => .ty "no plain value"
def plainV : Value → Bool
  | .ellipsis | .notImplemented | .builtin _ => false
  | _ => true
theorem bareV_rel : ∀ {v : Value},plainV v = true → RelV (bareV v) v
  | .none,_ => rfl
  | .bool _,_ => rfl
  | .int _ t,_ => ⟨t,rfl⟩
  | .str _ t,_ => ⟨t,rfl⟩
  | .bytes _ t,_ => ⟨t,rfl⟩
  | .float _ t,_ => ⟨t,rfl⟩
  | .ref _,_ => rfl
  | .type _,_ => rfl
  | .ellipsis,h => by cases h
  | .notImplemented,h => by cases h
  | .builtin _,h => by cases h
theorem vals_bare : ∀ {l : List Value},l.all plainV = true → Vals (l.map bareV) l
  | [],_ => .nil
  | _ :: _,h => by
    rw [List.all_cons,Bool.and_eq_true] at h
    exact .cons (bareV_rel h.1) (vals_bare h.2)
def seqAt (K : Frag) (v : Value) : Option (List V) := match v with
  | .ref a => (match K.lookup a with
    | some ⟨_,_,.seq its _,_⟩ => bif its.toList.all plainV then some (its.toList.map bareV) else none
    | _ => none)
  | _ => none
theorem seqAt_spec {K : Frag} {v : Value} {ds : List V} (e : seqAt K v = some ds) : ∃ (a : Addr) (o : Obj) (its : List Value) (n : Nat),v = .ref a ∧ K.lookup a = some o ∧ o.data = .seq its.toArray n ∧ Vals ds its := by
  unfold seqAt at e
  split at e
  · rename_i a
    split at e
    · rename_i oc od its n osl hl
      cases hq : its.toList.all plainV with
      | false => rw [hq] at e; cases e
      | true =>
        rw [hq] at e
        cases e
        exact ⟨a,_,its.toList,n,rfl,hl,rfl,vals_bare hq⟩
    · cases e
  · cases e
def fnFactD (K : Frag) (x : Str) : Option (Arguments × List Stmt × Scope × List V) := match fnFact K x with
  | some (a,b,s,dv) => (match seqAt K dv with
    | some ds => some (a,b,s,ds)
    | none => none)
  | none => none
theorem dfd_of {K : Frag} {mg : Str → Option Value} {h : Heap} {x : Str} {st : Stmt} {ds : List V} (X : K.In h) (G : h.Ns mainGlobals mg) (e : fnFactD K x = some (defArgs st,defBody st,defScope st,ds)) : DfD K mg x st ds := by
  unfold fnFactD at e
  split at e
  · rename_i a b s dv hf
    split at e
    · rename_i ds' hs
      simp only [Option.some.injEq,Prod.mk.injEq] at e
      obtain ⟨e1,e2,e3,e4⟩ := e
      subst e1 e2 e3 e4
      obtain ⟨f,oc,od,kV,doc,pm,an,cdv,ct,osl,h1,h2,h3,h4⟩ := fnFact_spec hf
      obtain ⟨T,oT,its,n,rfl,hl,hd,hv⟩ := seqAt_spec hs
      exact dfd_mk X G h1 h2 h3 h4 hl hd hv
    · cases e
  · cases e
def cls (K : Frag) (x : Str) : Addr := match nsIn K mainGlobals x with
  | some (some (.ref C)) => C
  | _ => 0
def excFact (K : Frag) (x : Str) : Bool := match nsIn K mainGlobals x with
  | some (some (.ref C)) => excIn K C [.type "ValueError",.type "Exception",.type "BaseException",.type "object"] "ValueError.__new__"
  | _ => false
theorem exc_of {K : Frag} {mg : Str → Option Value} {h : Heap} {x : Str} (X : K.In h) (G : h.Ns mainGlobals mg) (e : excFact K x = true) : ExcC K mg x (cls K x) := by
  unfold excFact at e
  split at e
  · rename_i C hC
    have : cls K x = C := by unfold cls; rw [hC]
    rw [this]
    exact exc_mk X G hC e
  · cases e
def tupFact (K : Frag) (x : Str) : Option (List V) := match nsIn K mainGlobals x with
  | some (some (.ref a)) => (match K.lookup a with
    | some ⟨.type "tuple",_,.seq its _,_⟩ => bif its.toList.all plainV then some (its.toList.map bareV) else none
    | _ => none)
  | _ => none
theorem tup_of {K : Frag} {x : Str} {ds : List V} (e : tupFact K x = some ds) : ∃ (a : Addr) (od : Option Addr) (its : List Value) (n : Nat) (osl : Array (Option Value)),nsIn K mainGlobals x = some (some (.ref a)) ∧ K.lookup a = some ⟨.type "tuple",od,.seq its.toArray n,osl⟩ ∧ Vals ds its := by
  unfold tupFact at e
  split at e
  · rename_i a ha
    split at e
    · rename_i od its n osl hl
      cases hq : its.toList.all plainV with
      | false => rw [hq] at e; cases e
      | true =>
        rw [hq] at e
        cases e
        exact ⟨a,od,its.toList,n,osl,ha,hl,vals_bare hq⟩
    · cases e
  · cases e
def noFact (K : Frag) (x : Str) : Bool := match nsIn K mainGlobals x with
  | some none => true
  | _ => false
theorem no_of {K : Frag} {x : Str} (e : noFact K x = true) : nsIn K mainGlobals x = some none := by
  unfold noFact at e
  split at e
  · rename_i h
    exact h
  · cases e
theorem at_map {α β : Type} {f g : α → β} {l : List α} (e : l.map f = l.map g) (i : Nat) {a : α} (h : l[i]? = some a) : f a = g a := by
  have q := congrArg (fun l : List β => l[i]?) e
  simp only [List.getElem?_map,h,Option.map_some,Option.some.injEq] at q
  exact q
theorem at_all {α : Type} {f : α → Bool} {l : List α} (e : l.all f = true) (i : Nat) {a : α} (h : l[i]? = some a) : f a = true :=
  List.all_eq_true.mp e a (List.mem_of_getElem? h)
theorem at_two {α : Type} {l m : List α} (e : l = m) (i : Nat) {a b : α} (h : l[i]? = some a) (h' : m[i]? = some b) : a = b := by
  subst e
  rw [h] at h'
  exact Option.some.inj h'
def hook {α : Type} (facts : Frag → α) (val : α) : Hook :=
  ⟨α,fun s => facts (frag s.heap),fun _ => val,fun _ h => ∃ K : Frag,K.In h ∧ facts K = val,fun _ s e => ⟨_,frag_in s.heap,e⟩,fun _ _ _ ⟨K,hi,e⟩ k => ⟨K,Frag.In.keeps hi k,e⟩⟩
theorem law_walk {l : OpenLaw} {k : Nat} {q : Program} {loose : List Str} {XP : (Str → Option Value) → Heap → Prop} {d : DefRec} {α : Type} {facts : Frag → α} {val : α} (hk : Room k callerA) (hn : l.most = some 63) (hdf : d.params.defaults = [])
    (F : ∀ (K : Frag),facts K = val → ∀ (w : World) (mg : Str → Option Value) (fa : Addr) (h : Heap),K.In h → h.Ns mainGlobals mg → mg d.name = some (.ref fa) →
      ∃ fd : FuncData,(∀ (s : Shared) (u : Value),BindsTo s fd ⟨[u],[]⟩ [("script",u)]) ∧ ∀ base : Heap,K.In base → base.Ns mainGlobals mg → FnOk l.prog w K mg base CX0 k fa fd ["script"] (spLaw K)) :
    WalkO q loose XP (Hook.says (hook facts val)) l.row.toRowW d [] (fun f vs => PySem.call f vs) := by
  intro w s₀ s₁ mg mb G Y
  obtain ⟨K,hin,hf⟩ := Y
  exact L2.law_walk (l := l) (k := k) (q := q) (loose := loose) (XP := XP) (YP := fun _ h => K.In h) (d := d) (K := fun _ => K) hk hn hdf (fun _ _ y => y) (fun w mg fa h => F K hf w mg fa h) w s₀ s₁ mg mb G hin
end Hd
namespace Hd
open PySem PySem.W PySem.Spec L2
theorem vals_sz {ds : List V} {its : List Value} (u : Vals ds its) (h : ds.length ≤ 100) : its.toArray.size ≤ 100 := by
  rw [List.size_toArray,← u.length]
  exact h
end Hd
namespace L2
open PySem PySem.Spec PyProof.Rows
structure DfA (K : PySem.W.Frag) (mg : Str → Option Value) (x y : Str) (st : Stmt) : Prop where
  ex : ∃ (f : Addr) (oc : Value) (od : Option Addr) (kV doc pm : Value) (an : Option Addr) (cdv ct : Value) (osl : Array (Option Value)),
    mg x = some (.ref f) ∧ K.lookup f = some ⟨oc,od,.func (PySem.W.fnOf y y (defArgs st) (defBody st) (defScope st) .none kV doc pm an cdv ct),osl⟩ ∧ PySem.W.codeIn K cdv y = true ∧ PySem.W.keepIn K (.ref f) = true
theorem dfa_mk {K : PySem.W.Frag} {mg : Str → Option Value} {h : Heap} {x y : Str} {st : Stmt} {f : Addr} {oc : Value} {od an : Option Addr} {osl : Array (Option Value)} {kV doc pm cdv ct : Value} (X : K.In h) (G : h.Ns mainGlobals mg)
    (a : PySem.W.nsIn K mainGlobals x = some (some (.ref f))) (l : K.lookup f = some ⟨oc,od,.func (PySem.W.fnOf y y (defArgs st) (defBody st) (defScope st) .none kV doc pm an cdv ct),osl⟩) (c : PySem.W.codeIn K cdv y = true) (k : PySem.W.keepIn K (.ref f) = true) :
    DfA K mg x y st := ⟨⟨f,oc,od,kV,doc,pm,an,cdv,ct,osl,PySem.W.mg_of X G a,l,c,k⟩⟩
theorem DfA.fn {P : Program} {w : World} {K : PySem.W.Frag} {mg : Str → Option Value} {base : Heap} {x y : Str} {st : Stmt} {N ps : List Str} {k : Nat} {sp : Sp} (D : DfA K mg x y st) (S : FnScope N ps (defScope st))
    (hbind : ∀ (kV doc pm : Value) (an : Option Addr) (cdv ct : Value) (us : List Value),us.length = ps.length → bindArgs (PySem.W.fnOf y y (defArgs st) (defBody st) (defScope st) .none kV doc pm an cdv ct) ⟨us,[]⟩ = pure (ps.zip us))
    (len : ∀ vs H Q E,sp vs H Q E → vs.length = ps.length)
    (hbody : ∀ (f : Addr) (cdv : Value) (A : Around) (outer : List Env) (s : Shared) (H : Hp) (vs : List V) (Q : VK) (E : XK),Room k (A.deeper (envOfC y (defScope st) s.heap.objs.size f cdv)) → sp vs H Q E →
      ∃ t,PSs (cxOf CX0 P w K mg base N y (defScope st) f cdv A outer s H E).nox (defBody st) t ∧ t { nx := fun _ H' => Q .non H',rt := Q } (start N vs) H) : Fn P w K mg base x ps (k + 1) sp := by
  obtain ⟨f,oc,od,kV,doc,pm,an,cdv,ct,osl,hm,lk,hcd,hk⟩ := D.ex
  refine ⟨⟨f,_,_,hm,hk,hbind kV doc pm an cdv ct,⟨lk,rfl⟩,fn_of lk hcd S len fun A outer s H vs Q E hr hsp => ?_⟩⟩
  obtain ⟨t,h,q⟩ := hbody f cdv A outer s H vs Q E hr hsp
  exact ⟨t,h.nox,q⟩
end L2
namespace Hd
open PySem PySem.W PySem.Spec L2
theorem pair2 {α β : Type _} {a a' : α} {b b' : β} (h : a = a') (g : b = b') : (a,b) = (a',b') := by rw [h,g]
def fnFactA (K : Frag) (x y : Str) : Option (Arguments × List Stmt × Scope × Value) := match nsIn K mainGlobals x with
  | some (some (.ref f)) => (match K.lookup f with
    | some ⟨_,_,.func fd,_⟩ => (match fd.body,fd.closure with
      | .stmts b,[] => bif (fd.name == y && (fd.qualname == y && (Nat.beq fd.globals mainGlobals && (Nat.beq fd.builtins builtinsNs && codeIn K fd.code y)))) then some (fd.params,b,fd.scope,fd.defaults) else none
      | _,_ => none)
    | _ => none)
  | _ => none
theorem fnFactA_spec {K : Frag} {x y : Str} {a : Arguments} {b : List Stmt} {sc : Scope} {dv : Value} (e : fnFactA K x y = some (a,b,sc,dv)) :
    ∃ (f : Addr) (oc : Value) (od : Option Addr) (kV doc pm : Value) (an : Option Addr) (cdv ct : Value) (osl : Array (Option Value)),
      nsIn K mainGlobals x = some (some (.ref f)) ∧ K.lookup f = some ⟨oc,od,.func (fnOf y y a b sc dv kV doc pm an cdv ct),osl⟩ ∧ codeIn K cdv y = true ∧ keepIn K (.ref f) = true := by
  unfold fnFactA at e
  split at e
  · rename_i f hf
    split at e
    · rename_i oc od fd osl hl
      split at e
      · rename_i b' hb hc
        cases hq : (fd.name == y && (fd.qualname == y && (Nat.beq fd.globals mainGlobals && (Nat.beq fd.builtins builtinsNs && codeIn K fd.code y)))) with
        | false => rw [hq] at e; cases e
        | true =>
          rw [hq] at e
          simp only [Bool.and_eq_true] at hq
          obtain ⟨h1,h2,h3,h4,h5⟩ := hq
          replace h1 := eq_of_beq h1
          replace h2 := eq_of_beq h2
          replace h3 := Nat.eq_of_beq_eq_true h3
          replace h4 := Nat.eq_of_beq_eq_true h4
          simp only [cond_true,Option.some.injEq,Prod.mk.injEq] at e
          obtain ⟨e1,e2,e3,e4⟩ := e
          obtain ⟨n,qn,ps,bd,s,gl,cl,df,kw,dc,pm,an,cd,ct,bl⟩ := fd
          simp only at h1 h2 h3 h4 h5 e1 e2 e3 e4 hb hc
          subst h1 h2 h3 h4 e1 e2 e3 e4 hb hc
          refine ⟨f,oc,od,kw,dc,pm,an,cd,ct,osl,hf,hl,h5,?_⟩
          unfold keepIn
          dsimp only
          rw [hl]
      · cases e
    · cases e
  · cases e
theorem dfa_of {K : Frag} {mg : Str → Option Value} {h : Heap} {x y : Str} {st : Stmt} (X : K.In h) (G : h.Ns mainGlobals mg) (e : fnFactA K x y = some (defArgs st,defBody st,defScope st,.none)) : DfA K mg x y st := by
  obtain ⟨f,oc,od,kV,doc,pm,an,cdv,ct,osl,h1,h2,h3,h4⟩ := fnFactA_spec e
  exact dfa_mk X G h1 h2 h3 h4
end Hd
namespace Hd
open PySem PySem.W PySem.Spec L2
theorem const_of {K : Frag} {mg : Str → Option Value} {h : Heap} {x : Str} {v : V} (X : K.In h) (G : h.Ns mainGlobals mg) (e : (nsIn K mainGlobals x).map (fun o => o.map bareV) = some (some v)) : ∃ u,mg x = some u ∧ bareV u = v := by
  cases hn : nsIn K mainGlobals x with
  | none =>
    rw [hn] at e
    cases e
  | some o =>
    cases o with
    | none =>
      rw [hn] at e
      cases e
    | some u =>
      rw [hn] at e
      exact ⟨u,mg_of X G hn,Option.some.inj (Option.some.inj e)⟩
theorem int_of {K : Frag} {mg : Str → Option Value} {h : Heap} {x : Str} {i : Int} (X : K.In h) (G : h.Ns mainGlobals mg) (e : (nsIn K mainGlobals x).map (fun o => o.map bareV) = some (some (.int i))) : ∃ tk,mg x = some (.int i tk) := by
  obtain ⟨u,h1,h2⟩ := const_of X G e
  cases u <;> first | (cases h2; exact ⟨_,h1⟩) | cases h2
theorem str_of {K : Frag} {mg : Str → Option Value} {h : Heap} {x z : Str} (X : K.In h) (G : h.Ns mainGlobals mg) (e : (nsIn K mainGlobals x).map (fun o => o.map bareV) = some (some (.str z))) : ∃ tk,mg x = some (.str z tk) := by
  obtain ⟨u,h1,h2⟩ := const_of X G e
  cases u <;> first | (cases h2; exact ⟨_,h1⟩) | cases h2
end Hd
local macro_rules | `(tactic| walk_at "bt") => `(tactic| first
  | assumption
  | (apply L2.bits_mul <;> walk_at "bt")
  | (apply L2.bits_add2 <;> walk_at "bt")
  | (apply L2.bits_sub2 <;> walk_at "bt")
  | (apply L2.bits_neg; walk_at "bt")
  | (apply L2.bits_abs; walk_at "bt")
  | exact L2.bits_lit)
local macro_rules | `(tactic| walk_at "bl") => `(tactic| (apply L2.bits_of_le; (walk_at "bt"); decide))
local macro_rules | `(tactic| walk_at "cm") => `(tactic| first
  | exact L2.CM.l ⟨by decide,by decide⟩
  | exact L2.CM.r ⟨by decide,by decide⟩
  | (apply L2.CM.of; (walk_at "bt"); (walk_at "bt"); decide))
local macro_rules | `(tactic| walk_at "at") => `(tactic| first
  | assumption
  | exact L2.upd_same
  | (refine L2.Same.at (by assumption) ?_; walk_at "at")
  | (refine L2.SameT.at (by assumption) ?_; walk_at "at"))
local macro_rules | `(tactic| walk_at "sm") => `(tactic| first
  | assumption
  | exact L2.Same.rfl'
  | (refine L2.Same.trans ?_ (by assumption); walk_at "sm"))
local macro_rules | `(tactic| walk_at "kn") => `(tactic| first
  | assumption
  | exact ⟨_,.int _⟩ | exact ⟨_,.bl _⟩ | exact ⟨_,.str _⟩ | exact ⟨_,.non⟩
  | exact ⟨_,.tup (by walk_at "at")⟩ | exact ⟨_,.lst (by walk_at "at")⟩ | exact ⟨_,.dict (by walk_at "at")⟩)
local macro_rules | `(tactic| walk_at "nice") => `(tactic| first
  | exact L2.nice_int | exact L2.nice_bool | exact L2.nice_tuple | exact L2.nice_list | exact L2.nice_str)
local macro_rules | `(tactic| walk_at "th") => `(tactic| first
  | assumption
  | exact Sp1.th_flat .non (fun p e => nomatch e) | exact Sp1.th_flat (.int _) (fun p e => nomatch e) | exact Sp1.th_flat (.bl _) (fun p e => nomatch e) | exact Sp1.th_flat (.str _) (fun p e => nomatch e)
  | exact Sp1.th_lst (by walk_at "at")
  | (refine' Sp1.th_tup ?hat ?hkn; (case hat => walk_at "at"); (case hkn => (simp only [List.mem_cons,List.not_mem_nil,or_false,forall_eq_or_imp,forall_eq,false_imp_iff,implies_true]; (try (first | (walk_at "kn") | (repeat' apply And.intro) <;> walk_at "kn")))))
  )
local macro_rules | `(tactic| walk_at "r1") => `(tactic| first
  | (refine ⟨_,rfl,?_⟩)
  | (refine ⟨_,_,rfl,rfl,?_⟩)
  | (refine' ⟨_,_,_,_,rfl,rfl,L2.SqT.of ?hat,?hix,?nxt⟩; (case hat => walk_at "at"); (case hix => exact rfl))
  | (refine' ⟨_,_,_,_,rfl,rfl,L2.SqL.of ?hat,?hix,?nxt⟩; (case hat => walk_at "at"); (case hix => exact rfl))
  | (refine ⟨by walk_at "cm",?_⟩)
  | (refine ⟨(by show (0 : Int) < _; decide),?_⟩)
  | (refine ⟨⟨by decide,by decide⟩,?_⟩)
  | (refine ⟨⟨by decide,by decide,by decide⟩,?_⟩)
  | (refine ⟨Sp1.sz (by simp),fun _ _ _ _ _ => ?_⟩)
  | (refine ⟨Sp1.sz (by simp),L2.alloc fun _ _ _ _ => ?_⟩)
  | (refine' ⟨_,_,_,_,rfl,rfl,?hat,?hbt,Sp1.sz ?hsz,fun _ _ _ _ _ => ?nxt⟩; (case hat => walk_at "at"); (case hbt => walk_at "at"); (case hsz => simp))
  | (refine' ⟨_,_,_,_,rfl,rfl,?hat,?hbt,Sp1.sz ?hsz,L2.alloc fun _ _ _ _ => ?nxt⟩; (case hat => walk_at "at"); (case hbt => walk_at "at"); (case hsz => simp))
  | (refine' ⟨_,_,rfl,.inl (L2.SqL.of ?hat),?nxt⟩; (case hat => walk_at "at"))
  | (refine' ⟨_,_,rfl,.inr (L2.SqT.of ?hat),?nxt⟩; (case hat => walk_at "at"))
  | (refine' L2.alloc fun _ _ _ _ => ?nxt))
local macro_rules | `(tactic| walk_at "rd") => `(tactic| repeat (walk_at "r1"))
namespace K60
open PySem PySem.Spec L2 Mth Sp1 Sp2 Sp3 Sp7 Dr Wk
def top (i : Nat) : Stmt := PySem.Challenge.pw_oneleash_k60_walks_judged.main.body.getD i (.Pass ⟨0,0,0,0⟩)
def hNames0 : List (Str × Nat) := [(Str.ofString "is_whole",10),(Str.ofString "common_divisor",11),(Str.ofString "plus",13),(Str.ofString "minus",14),(Str.ofString "times",15),(Str.ofString "less",17),(Str.ofString "floor_of",18),(Str.ofString "number_of_least",19),(Str.ofString "number_of_greatest",20),(Str.ofString "is_ratio",21),(Str.ofString "is_small",25),(Str.ofString "is_corner",26),(Str.ofString "is_line",27),(Str.ofString "last_of",28),(Str.ofString "is_place",30),(Str.ofString "look_at_place",31),(Str.ofString "is_pair",32),(Str.ofString "are_pairs",33),(Str.ofString "number_at",34),(Str.ofString "point_at",35),(Str.ofString "share_a_stretch",36),(Str.ofString "step_from",37),(Str.ofString "inner_product",38),(Str.ofString "square_between",39),(Str.ofString "square_of",40)]
def hNames1 : List (Str × Nat) := [(Str.ofString "look_at_way",45),(Str.ofString "show_ratio",69),(Str.ofString "read_whole",70),(Str.ofString "read_ratio",71),(Str.ofString "two_parts",72),(Str.ofString "read_corner",73),(Str.ofString "read_line",74),(Str.ofString "read_pair",75),(Str.ofString "read_paper",76),(Str.ofString "goes_on",80),(Str.ofString "goes_freely",81),(Str.ofString "hops",82),(Str.ofString "judged",90),(Str.ofString "_law_cell_at",92),(Str.ofString "_law_folded",93),(Str.ofString "_law_begun",94),(Str.ofString "_law_take",95),(Str.ofString "_law_wide",96),(Str.ofString "_law_drawn_line",97),(Str.ofString "_law_moved",98),(Str.ofString "_law_drawn_other",99),(Str.ofString "_law_lines",100),(Str.ofString "_law_divisor",101),(Str.ofString "_law_ratio",102),(Str.ofString "_law_below",103)]
def hNames2 : List (Str × Nat) := [(Str.ofString "_law_whole",104),(Str.ofString "_law_is_ratio",105),(Str.ofString "_law_is_place",106),(Str.ofString "_law_near",107),(Str.ofString "_law_are_pairs",108),(Str.ofString "_law_goes",109),(Str.ofString "_law_is_walk",110),(Str.ofString "_law_point_at",111),(Str.ofString "_law_square_of",112),(Str.ofString "_law_walk_square",113),(Str.ofString "_law_spot_on",114),(Str.ofString "_law_any",115),(Str.ofString "_law_ahead",116),(Str.ofString "_law_home",117),(Str.ofString "_law_drawn_walk",118),(Str.ofString "_law_spoilt",119),(Str.ofString "_law_drawn_way",120),(Str.ofString "_law_shown",121),(Str.ofString "_law_line_text",122),(Str.ofString "_law_paper_text",123),(Str.ofString "_law_bad",124),(Str.ofString "_law_told_of",125),(Str.ofString "_law_due_of",126),(Str.ofString "_law_right",127),(Str.ofString "law",128)]
def hNamesD : List (Str × Nat × List V) := [(Str.ofString "ratio",12,[.int 1]),(Str.ofString "fence_square",63,[.str "on"]),(Str.ofString "is_walk",87,[.str "on"]),(Str.ofString "walk_square",88,[.str "on"])]
def hExc : List Str := [Str.ofString "NoRatio",Str.ofString "NoWay",Str.ofString "NoWalk",Str.ofString "LeashError",Str.ofString "NoFence",Str.ofString "NoLine",Str.ofString "NoPlace",Str.ofString "NoText"]
def hNo : List Str := [Str.ofString "ValueError",Str.ofString "abs",Str.ofString "all",Str.ofString "bool",Str.ofString "enumerate",Str.ofString "int",Str.ofString "isinstance",Str.ofString "len",Str.ofString "list",Str.ofString "max",Str.ofString "min",Str.ofString "range",Str.ofString "reversed",Str.ofString "str",Str.ofString "tuple",Str.ofString "zip"]
def hTup : List (Str × List V) := [(Str.ofString "WAYS",[.str "on",.str "part",.str "free",.str "hops"]),(Str.ofString "PAPERS",[.str "walk",.str "fence"])]
def hEq0 (K : PySem.W.Frag) : List (Option (Option Value)) := [PySem.W.nsIn K cStatics "sys.int_max_str_digits",PySem.W.findIn K (.ref (Hd.cls K "NoText")) "__getattribute__",PySem.W.findIn K (.ref (Hd.cls K "NoText")) "__getattr__",PySem.W.findIn K (.ref (Hd.cls K "NoText")) "__class__",PySem.W.findIn K (.ref (Hd.cls K "NoWalk")) "__getattribute__",PySem.W.findIn K (.ref (Hd.cls K "NoWalk")) "__getattr__",PySem.W.findIn K (.ref (Hd.cls K "NoWalk")) "__class__"]
def hVal0 : List (Option (Option Value)) := [some none,some (some (.builtin "BaseException.__getattribute__")),some none,some (some (.builtin "object.__class__")),some (some (.builtin "BaseException.__getattribute__")),some none,some (some (.builtin "object.__class__"))]
def hEq1 (K : PySem.W.Frag) : List (Option (Option V)) := [(PySem.W.nsIn K mainGlobals "FIGURES").map (fun o => o.map Hd.bareV),(PySem.W.nsIn K mainGlobals "MOST_FIGURES").map (fun o => o.map Hd.bareV),(PySem.W.nsIn K mainGlobals "MOST_PAIRS").map (fun o => o.map Hd.bareV),(PySem.W.nsIn K mainGlobals "MOST_CORNERS").map (fun o => o.map Hd.bareV),(PySem.W.nsIn K mainGlobals "LARGEST").map (fun o => o.map Hd.bareV)]
def hVal1 : List (Option (Option V)) := [some (some (.str (Str.ofString "0123456789"))),some (some (.int 1000)),some (some (.int 200)),some (some (.int 10)),some (some (.int 999999999999))]
def hEq2 (K : PySem.W.Frag) : List (Option Bool) := [PySem.W.exmOne K (.ref (Hd.cls K "NoText")) (.ref (Hd.cls K "LeashError")),PySem.W.kitOne K (.ref (Hd.cls K "NoText")) (.ref (Hd.cls K "NoText")),PySem.W.kitOne K (.ref (Hd.cls K "NoText")) (.ref (Hd.cls K "NoWalk")),PySem.W.kitOne K (.ref (Hd.cls K "NoText")) (.ref (Hd.cls K "NoFence")),PySem.W.kitOne K (.ref (Hd.cls K "NoText")) (.type "ValueError"),PySem.W.kitAny K (.ref (Hd.cls K "NoText")) [(.ref (Hd.cls K "NoLine")),(.ref (Hd.cls K "NoPlace")),(.ref (Hd.cls K "NoWay"))],PySem.W.exmOne K (.ref (Hd.cls K "NoWalk")) (.ref (Hd.cls K "LeashError")),PySem.W.kitOne K (.ref (Hd.cls K "NoWalk")) (.ref (Hd.cls K "NoText")),PySem.W.kitOne K (.ref (Hd.cls K "NoWalk")) (.ref (Hd.cls K "NoWalk")),PySem.W.kitOne K (.ref (Hd.cls K "NoWalk")) (.ref (Hd.cls K "NoFence")),PySem.W.kitOne K (.ref (Hd.cls K "NoWalk")) (.type "ValueError"),PySem.W.kitAny K (.ref (Hd.cls K "NoWalk")) [(.ref (Hd.cls K "NoLine")),(.ref (Hd.cls K "NoPlace")),(.ref (Hd.cls K "NoWay"))]]
def hVal2 : List (Option Bool) := [some true,some true,some false,some false,some true,some false,some true,some false,some true,some false,some true,some false]
def hNamesA : List (Str × Str × Nat) := [(Str.ofString "has_right_ends_walks",Str.ofString "has_right_ends",78),(Str.ofString "may_step_walks",Str.ofString "may_step",83),(Str.ofString "has_right_steps_walks",Str.ofString "has_right_steps",85)]
def hF0 (K : PySem.W.Frag) : List (Option (Arguments × List Stmt × Scope × Value)) := hNames0.map (fun p => Hd.fnFact K p.1)
def hG0 : List (Option (Arguments × List Stmt × Scope × Value)) := hNames0.map (fun p => some (defArgs (top p.2),defBody (top p.2),defScope (top p.2),.none))
def hF1 (K : PySem.W.Frag) : List (Option (Arguments × List Stmt × Scope × Value)) := hNames1.map (fun p => Hd.fnFact K p.1)
def hG1 : List (Option (Arguments × List Stmt × Scope × Value)) := hNames1.map (fun p => some (defArgs (top p.2),defBody (top p.2),defScope (top p.2),.none))
def hF2 (K : PySem.W.Frag) : List (Option (Arguments × List Stmt × Scope × Value)) := hNames2.map (fun p => Hd.fnFact K p.1)
def hG2 : List (Option (Arguments × List Stmt × Scope × Value)) := hNames2.map (fun p => some (defArgs (top p.2),defBody (top p.2),defScope (top p.2),.none))
def hF3 (K : PySem.W.Frag) : List (Option (Arguments × List Stmt × Scope × List V)) × Bool × Bool × List (Option (List V)) × List (Option (Arguments × List Stmt × Scope × Value)) × List (Option (Option Value)) × List (Option (Option V)) × List (Option Bool) := (hNamesD.map (fun p => Hd.fnFactD K p.1),hExc.all (Hd.excFact K),hNo.all (Hd.noFact K),hTup.map (fun p => Hd.tupFact K p.1),hNamesA.map (fun p => Hd.fnFactA K p.1 p.2.1),hEq0 K,hEq1 K,hEq2 K)
def hG3 : List (Option (Arguments × List Stmt × Scope × List V)) × Bool × Bool × List (Option (List V)) × List (Option (Arguments × List Stmt × Scope × Value)) × List (Option (Option Value)) × List (Option (Option V)) × List (Option Bool) := (hNamesD.map (fun p => some (defArgs (top p.2.1),defBody (top p.2.1),defScope (top p.2.1),p.2.2)),true,true,hTup.map (fun p => some p.2),hNamesA.map (fun p => some (defArgs (top p.2.2),defBody (top p.2.2),defScope (top p.2.2),.none)),hVal0,hVal1,hVal2)
def hFacts (K : PySem.W.Frag) : (List (Option (Arguments × List Stmt × Scope × Value))) × (List (Option (Arguments × List Stmt × Scope × Value))) × (List (Option (Arguments × List Stmt × Scope × Value))) × (List (Option (Arguments × List Stmt × Scope × List V)) × Bool × Bool × List (Option (List V)) × List (Option (Arguments × List Stmt × Scope × Value)) × List (Option (Option Value)) × List (Option (Option V)) × List (Option Bool)) := (hF0 K,hF1 K,hF2 K,hF3 K)
def hGood : (List (Option (Arguments × List Stmt × Scope × Value))) × (List (Option (Arguments × List Stmt × Scope × Value))) × (List (Option (Arguments × List Stmt × Scope × Value))) × (List (Option (Arguments × List Stmt × Scope × List V)) × Bool × Bool × List (Option (List V)) × List (Option (Arguments × List Stmt × Scope × Value)) × List (Option (Option Value)) × List (Option (Option V)) × List (Option Bool)) := (hG0,hG1,hG2,hG3)
def hView : Program := PySem.W.view PySem.Challenge.pw_oneleash_k60_walks_judged [128]
def hLoose : List Str := [Str.ofString "LeashError",Str.ofString "NoRatio",Str.ofString "NoLine",Str.ofString "NoPlace",Str.ofString "NoWay",Str.ofString "NoWalk",Str.ofString "NoFence",Str.ofString "NoText",Str.ofString "is_whole",Str.ofString "common_divisor",Str.ofString "ratio",Str.ofString "plus",Str.ofString "minus",Str.ofString "times",Str.ofString "over",Str.ofString "less",Str.ofString "floor_of",Str.ofString "number_of_least",Str.ofString "number_of_greatest",Str.ofString "is_ratio",Str.ofString "MOST_CORNERS",Str.ofString "LARGEST",Str.ofString "is_small",Str.ofString "is_corner",Str.ofString "is_line",Str.ofString "last_of",Str.ofString "is_place",Str.ofString "look_at_place",Str.ofString "is_pair",Str.ofString "are_pairs",Str.ofString "number_at",Str.ofString "point_at",Str.ofString "share_a_stretch",Str.ofString "step_from",Str.ofString "inner_product",Str.ofString "square_between",Str.ofString "square_of",Str.ofString "nearest_part",Str.ofString "least_along",Str.ofString "WAYS",Str.ofString "look_at_way",Str.ofString "has_right_ends",Str.ofString "has_right_ends_fences",Str.ofString "steps_back",Str.ofString "keeps_corner",Str.ofString "slides",Str.ofString "has_whole_places",Str.ofString "hops_aside",Str.ofString "may_step",Str.ofString "may_step_fences",Str.ofString "has_right_steps",Str.ofString "has_right_steps_fences",Str.ofString "is_fence",Str.ofString "is_measured_between",Str.ofString "least_between",Str.ofString "slide_square",Str.ofString "measured_squares",Str.ofString "fence_square",Str.ofString "MOST_FIGURES",Str.ofString "MOST_PAIRS",Str.ofString "FIGURES",Str.ofString "PAPERS",Str.ofString "show_ratio",Str.ofString "read_whole",Str.ofString "read_ratio",Str.ofString "two_parts",Str.ofString "read_corner",Str.ofString "read_line",Str.ofString "read_pair",Str.ofString "read_paper",Str.ofString "has_right_ends_walks",Str.ofString "goes_on",Str.ofString "goes_freely",Str.ofString "hops",Str.ofString "may_step_walks",Str.ofString "has_right_steps_walks",Str.ofString "is_walk",Str.ofString "walk_square",Str.ofString "judged",Str.ofString "_law_cell_at",Str.ofString "_law_folded",Str.ofString "_law_begun",Str.ofString "_law_take",Str.ofString "_law_wide",Str.ofString "_law_drawn_line",Str.ofString "_law_moved",Str.ofString "_law_drawn_other",Str.ofString "_law_lines",Str.ofString "_law_divisor",Str.ofString "_law_ratio",Str.ofString "_law_below",Str.ofString "_law_whole",Str.ofString "_law_is_ratio",Str.ofString "_law_is_place",Str.ofString "_law_near",Str.ofString "_law_are_pairs",Str.ofString "_law_goes",Str.ofString "_law_is_walk",Str.ofString "_law_point_at",Str.ofString "_law_square_of",Str.ofString "_law_walk_square",Str.ofString "_law_spot_on",Str.ofString "_law_any",Str.ofString "_law_ahead",Str.ofString "_law_home",Str.ofString "_law_drawn_walk",Str.ofString "_law_spoilt",Str.ofString "_law_drawn_way",Str.ofString "_law_shown",Str.ofString "_law_line_text",Str.ofString "_law_paper_text",Str.ofString "_law_bad",Str.ofString "_law_told_of",Str.ofString "_law_due_of",Str.ofString "_law_right"]
noncomputable def hRunS (w : World) := (PySem.W.openEnds treeTable PySem.Challenge.pw_oneleash_k60_walks_judged w 100000).map (fun s => (PySem.W.openSeen hView hLoose (importedModules PySem.Challenge.pw_oneleash_k60_walks_judged.main.body) (fun _ => true) true s,hF3 (Hd.frag s.heap)))
noncomputable def hEndS := some (PySem.W.openGood hView hLoose,hG3)
theorem hRunS_self : @hRunS = @hRunS := rfl
theorem hEndS_self : @hEndS = @hEndS := rfl
set_option maxHeartbeats 0 in
lay_quick K60.hRunS K60.hEndS
name_quick hRunSQ for K60.hRunS by K60.hRunS_self
name_quick hEndSQ for K60.hEndS by K60.hEndS_self
set_option maxHeartbeats 0 in
theorem hQuickS (w : World) : PySem.W.Fast.hRunSQ w = PySem.W.Fast.hEndSQ := by kernel_rfl
theorem hOneS (w : World) : hRunS w = hEndS := (congrFun PySem.W.Fast.hRunSQ_eq w).trans ((hQuickS w).trans PySem.W.Fast.hEndSQ_eq.symm)
noncomputable def hRun0 (w : World) := (PySem.W.openEnds treeTable PySem.Challenge.pw_oneleash_k60_walks_judged w 100000).map (fun s => hF0 (Hd.frag s.heap))
noncomputable def hEnd0 := some (hG0)
theorem hRun0_self : @hRun0 = @hRun0 := rfl
theorem hEnd0_self : @hEnd0 = @hEnd0 := rfl
set_option maxHeartbeats 0 in
lay_quick K60.hRun0 K60.hEnd0
name_quick hRun0Q for K60.hRun0 by K60.hRun0_self
name_quick hEnd0Q for K60.hEnd0 by K60.hEnd0_self
set_option maxHeartbeats 0 in
theorem hQuick0 (w : World) : PySem.W.Fast.hRun0Q w = PySem.W.Fast.hEnd0Q := by kernel_rfl
theorem hOne0 (w : World) : hRun0 w = hEnd0 := (congrFun PySem.W.Fast.hRun0Q_eq w).trans ((hQuick0 w).trans PySem.W.Fast.hEnd0Q_eq.symm)
noncomputable def hRun1 (w : World) := (PySem.W.openEnds treeTable PySem.Challenge.pw_oneleash_k60_walks_judged w 100000).map (fun s => hF1 (Hd.frag s.heap))
noncomputable def hEnd1 := some (hG1)
theorem hRun1_self : @hRun1 = @hRun1 := rfl
theorem hEnd1_self : @hEnd1 = @hEnd1 := rfl
set_option maxHeartbeats 0 in
lay_quick K60.hRun1 K60.hEnd1
name_quick hRun1Q for K60.hRun1 by K60.hRun1_self
name_quick hEnd1Q for K60.hEnd1 by K60.hEnd1_self
set_option maxHeartbeats 0 in
theorem hQuick1 (w : World) : PySem.W.Fast.hRun1Q w = PySem.W.Fast.hEnd1Q := by kernel_rfl
theorem hOne1 (w : World) : hRun1 w = hEnd1 := (congrFun PySem.W.Fast.hRun1Q_eq w).trans ((hQuick1 w).trans PySem.W.Fast.hEnd1Q_eq.symm)
noncomputable def hRun2 (w : World) := (PySem.W.openEnds treeTable PySem.Challenge.pw_oneleash_k60_walks_judged w 100000).map (fun s => hF2 (Hd.frag s.heap))
noncomputable def hEnd2 := some (hG2)
theorem hRun2_self : @hRun2 = @hRun2 := rfl
theorem hEnd2_self : @hEnd2 = @hEnd2 := rfl
set_option maxHeartbeats 0 in
lay_quick K60.hRun2 K60.hEnd2
name_quick hRun2Q for K60.hRun2 by K60.hRun2_self
name_quick hEnd2Q for K60.hEnd2 by K60.hEnd2_self
set_option maxHeartbeats 0 in
theorem hQuick2 (w : World) : PySem.W.Fast.hRun2Q w = PySem.W.Fast.hEnd2Q := by kernel_rfl
theorem hOne2 (w : World) : hRun2 w = hEnd2 := (congrFun PySem.W.Fast.hRun2Q_eq w).trans ((hQuick2 w).trans PySem.W.Fast.hEnd2Q_eq.symm)
theorem hAll (w : World) : (PySem.W.openEnds treeTable PySem.Challenge.pw_oneleash_k60_walks_judged w 100000).map (fun s => (PySem.W.openSeen hView hLoose (importedModules PySem.Challenge.pw_oneleash_k60_walks_judged.main.body) (fun _ => true) true s,hFacts (Hd.frag s.heap))) = some (PySem.W.openGood hView hLoose,hGood) := by
  have rS : (PySem.W.openEnds treeTable PySem.Challenge.pw_oneleash_k60_walks_judged w 100000).map (fun s => (PySem.W.openSeen hView hLoose (importedModules PySem.Challenge.pw_oneleash_k60_walks_judged.main.body) (fun _ => true) true s,hF3 (Hd.frag s.heap))) = some (PySem.W.openGood hView hLoose,hG3) := hOneS w
  have r0 : (PySem.W.openEnds treeTable PySem.Challenge.pw_oneleash_k60_walks_judged w 100000).map (fun s => hF0 (Hd.frag s.heap)) = some (hG0) := hOne0 w
  have r1 : (PySem.W.openEnds treeTable PySem.Challenge.pw_oneleash_k60_walks_judged w 100000).map (fun s => hF1 (Hd.frag s.heap)) = some (hG1) := hOne1 w
  have r2 : (PySem.W.openEnds treeTable PySem.Challenge.pw_oneleash_k60_walks_judged w 100000).map (fun s => hF2 (Hd.frag s.heap)) = some (hG2) := hOne2 w
  skip
  generalize (PySem.W.openEnds treeTable PySem.Challenge.pw_oneleash_k60_walks_judged w 100000) = x at *
  cases x with
  | none => cases rS
  | some s =>
    have qS := Option.some.inj rS
    have q0 := Option.some.inj r0
    have q1 := Option.some.inj r1
    have q2 := Option.some.inj r2
    show some (PySem.W.openSeen hView hLoose (importedModules PySem.Challenge.pw_oneleash_k60_walks_judged.main.body) (fun _ => true) true s,hFacts (Hd.frag s.heap)) = _
    unfold hFacts hGood
    have z := congrArg Prod.fst qS
    have q3 := (congrArg Prod.snd qS)
    exact congrArg some (Hd.pair2 z (Hd.pair2 q0 (Hd.pair2 q1 (Hd.pair2 q2 q3))))
structure Txt (mg : Str → Option Value) : Prop where
  z_ValueError : mg "ValueError" = none
  z_abs : mg "abs" = none
  z_all : mg "all" = none
  z_bool : mg "bool" = none
  z_enumerate : mg "enumerate" = none
  z_int : mg "int" = none
  z_isinstance : mg "isinstance" = none
  z_len : mg "len" = none
  z_list : mg "list" = none
  z_max : mg "max" = none
  z_min : mg "min" = none
  z_range : mg "range" = none
  z_reversed : mg "reversed" = none
  z_str : mg "str" = none
  z_tuple : mg "tuple" = none
  z_zip : mg "zip" = none
section
variable {P : Program} {w : World} {K : PySem.W.Frag} {mg : Str → Option Value} {base : Heap}
theorem len1 {α : Type} {xs : List α} (h : xs.length = 1) : ∃ a,xs = [a] := match xs,h with | [a],_ => ⟨a,rfl⟩
theorem S_is_whole : FnScope ["thing"] ["thing"] (defScope (top 10)) := ⟨rfl,rfl,rfl,by decide +kernel,rfl,by decide +kernel,by decide +kernel⟩
theorem fn_is_whole (D_is_whole : Df K mg "is_whole" (top 10)) (T : Txt mg) : Fn P w K mg base "is_whole" ["thing"] 1 spWhole := by
  refine D_is_whole.fn S_is_whole (fun _ _ _ _ _ _ us hl => by obtain ⟨_,rfl⟩ := len1 hl; rfl) (fun vs H Q E h => ?_) (fun f cdv A outer s H vs Q E hr h => ?_)
  · obtain ⟨x,t,rfl,_⟩ := h
    rfl
  · obtain ⟨x,t,rfl,k,q⟩ := h
    refine ⟨_,(pss_one (ps_ret (pe_and (pe_callB call_isinst (by rfl) T.z_isinstance bt_isinstance (pa_cons (pv 0) (pa_cons (pe_ty T.z_int bt_int) pa_nil))) (pe_one (pe_not (pe_callB call_isinst (by rfl) T.z_isinstance bt_isinstance (pa_cons (pv 0) (pa_cons (pe_ty T.z_bool bt_bool) pa_nil)))))))),?_⟩
    refine ⟨_,rfl,x,t,"int",rfl,k,.inl rfl,_,rfl,?_⟩
    refine ite3 (fun hc => ?_) (fun hc => ?_)
    · refine ⟨_,rfl,x,t,"bool",rfl,k,.inr (.inl rfl),_,rfl,?_⟩
      rw [(whole_sub k).1 hc]
      exact q
    · rw [(whole_sub k).2 hc] at q
      exact q
theorem S_common_divisor : FnScope ["one","other","rest"] ["one","other"] (defScope (top 11)) := ⟨rfl,rfl,rfl,by decide +kernel,rfl,by decide +kernel,by decide +kernel⟩
theorem fn_common_divisor (D_common_divisor : Df K mg "common_divisor" (top 11)) (T : Txt mg) : Fn P w K mg base "common_divisor" ["one","other"] 1 spGcd := by
  refine D_common_divisor.fn S_common_divisor (fun _ _ _ _ _ _ us hl => by obtain ⟨_,_,rfl⟩ := len2 hl; rfl) (fun vs H Q E h => ?_) (fun f cdv A outer s H vs Q E hr h => ?_)
  · obtain ⟨a,b,rfl,_⟩ := h
    rfl
  · obtain ⟨a,b,rfl,q⟩ := h
    refine ⟨_,(pss_cons (ps_set (i := 0) S_common_divisor.nd rfl (Or.inl rfl) (pe_callB call_abs (by rfl) T.z_abs bt_abs (pa_cons (pv 0) pa_nil))) (pss_cons (ps_set (i := 1) S_common_divisor.nd rfl (Or.inl rfl) (pe_callB call_abs (by rfl) T.z_abs bt_abs (pa_cons (pv 1) pa_nil))) (pss_cons (ps_while PassesOwn.never (pt_cmpR op_ne (pv 1) pe_int (nomark _)) (pss_cons (ps_set (i := 2) S_common_divisor.nd rfl (Or.inl rfl) (pe_op op_mod (pv 0) (pv 1))) (pss_cons (ps_set (i := 0) S_common_divisor.nd rfl (Or.inl rfl) (pv 1)) (pss_one (ps_set (i := 1) S_common_divisor.nd rfl (Or.inl rfl) (pv 2)))))) (pss_one (ps_ret (pv 0)))))),?_⟩
    refine ⟨_,rfl,a,rfl,_,rfl,b,rfl,?_⟩
    refine while_by (fun σ H' => ∃ x y r,σ = [some (.int x),some (.int y),r] ∧ H' = H ∧ 0 ≤ x ∧ 0 ≤ y ∧ Int.gcd x y = Int.gcd a b)
      (fun σ _ => match σ with | [_,some (.int y),_] => y.toNat | _ => 0) ⟨_,_,_,rfl,rfl,abs_nonneg a,abs_nonneg b,by rw [gcd_abs,gcd_abs']⟩ ?_ ?_
    · rintro σ H' ⟨x,y,r,rfl,rfl,hx,hy,hg⟩
      refine ⟨_,rfl,rfl,_,rfl,?_⟩
      refine ite3 (fun hc => ?_) (fun hc => ?_)
      · have hy0 : ¬ y = 0 := by simpa using hc
        have hy1 : 0 < y := by omega
        refine ⟨_,rfl,_,rfl,x,y,rfl,rfl,hy1,_,rfl,_,rfl,⟨y,x % y,_,rfl,rfl,hy,Int.emod_nonneg _ hy0,?_⟩,?_⟩
        · rw [gcd_step hx hy1]
          exact hg
        · have h1 := Int.emod_lt_of_pos x hy1
          have h2 := Int.emod_nonneg x hy0
          show (x % y).toNat < y.toNat
          omega
      · have hy0 : y = 0 := by simpa using hc
        subst hy0
        refine ⟨_,rfl,?_⟩
        have e : (Int.gcd a b : Int) = x := by rw [← hg]; exact gcd_zero hx
        rw [e] at q
        exact q
    · rintro σ H' Q1 Q2 hq ⟨v,e,hs,k,ek,r⟩
      exact ⟨v,e,hs,k,ek,hq _ _ r⟩
theorem S_ratio : FnScope ["top","bottom","divisor"] ["top","bottom"] (defScope (top 12)) := ⟨rfl,rfl,rfl,by decide +kernel,rfl,by decide +kernel,by decide +kernel⟩
theorem fn_ratio {C : Addr} (D_ratio : DfD K mg "ratio" (top 12) [.int 1]) (O_NoRatio : ExcC K mg "NoRatio" C) (F_is_whole : Fn P w K mg base "is_whole" ["thing"] 1 spWhole) (F_common_divisor : Fn P w K mg base "common_divisor" ["one","other"] 1 spGcd) : Fx P w K mg base "ratio" ["top","bottom"] 2 [.int 1] (spRatioN C) := by
  refine D_ratio.fx S_ratio (fun T kV doc pm an cdv ct us its oT n s hv hl ho hs => ?_) (fun T kV doc pm an cdv ct us its oT n s hv hl ho hs => ?_) (fun vs H Q E h => ?_) (fun f cdv A outer s H vs Q E hr h => ?_)
  · obtain ⟨u,rfl,_⟩ := vals1 hv
    match us,hl with
    | [_,_],_ => exact BindsTo.of_defaults rfl ho hs rfl rfl
  · obtain ⟨u,rfl,_⟩ := vals1 hv
    have hl1 : us.length = 1 := by simpa using hl
    match us,hl1 with
    | [_],_ => exact BindsTo.of_defaults rfl ho hs rfl rfl
  · obtain ⟨a,b,nb,rfl,_⟩ := h
    rfl
  · obtain ⟨a,b,nb,rfl,⟨ba,bb,hnb⟩,k0,k1⟩ := h
    refine ⟨_,(pss_cons (ps_if (pw_or (pt_not (pt_val (pe_fn F_is_whole (hr.mono (by decide)) (by rfl) (pa_cons (pv 0) pa_nil)))) (pw_or (pt_not (pt_val (pe_fn F_is_whole (hr.mono (by decide)) (by rfl) (pa_cons (pv 1) pa_nil)))) (pw_or1 (pt_cmpR op_eq (pv 1) pe_int (nomark _))))).pt (pss_one (ps_raise O_NoRatio (by rfl))) pss_nil) (pss_cons (ps_set (i := 2) S_ratio.nd rfl (Or.inl rfl) (pe_fn F_common_divisor (hr.mono (by decide)) (by rfl) (pa_cons (pv 0) (pa_cons (pv 1) pa_nil)))) (pss_cons (ps_if (pt_cmpR op_lt (pv 1) pe_int (nomark _)) (pss_one (ps_set (i := 2) S_ratio.nd rfl (Or.inl rfl) (pe_un un_neg (pv 2)))) pss_nil) (pss_one (ps_ret (pe_tup (pa_cons (pe_op op_fdivZ (pv 0) (pv 2)) (pa_cons (pe_op op_fdivZ (pv 1) (pv 2)) pa_nil)))))))),?_⟩
    refine ⟨_,rfl,_,_,rfl,.int a,_,rfl,iteF ?_⟩
    refine ⟨_,rfl,_,_,rfl,.int b,_,rfl,iteF ?_⟩
    refine ⟨_,rfl,rfl,_,rfl,?_⟩
    refine ite3 (fun hc => ?_) (fun hc => ?_)
    · exact k0 (by simpa using hc)
    · have hb : b ≠ 0 := by simpa using hc
      have hg := gcd_pos (a := a) (b := b) hb
      have bg : bits (Int.gcd a b : Int) ≤ 8000 := bits_le (gcd_bits2 hb bb) (by omega)
      refine ⟨_,rfl,_,rfl,a,b,rfl,?_⟩
      refine ⟨_,rfl,_,_,rfl,rfl,_,rfl,?_⟩
      refine ite3 (fun hd => ?_) (fun hd => ?_)
      · have hlt : b < 0 := by simpa using hd
        refine ⟨_,rfl,_,rfl,?_⟩
        refine ⟨_,rfl,_,rfl,_,_,rfl,rfl,⟨by omega,bits_neg bg⟩,_,rfl,_,rfl,_,_,rfl,rfl,⟨by omega,bits_neg bg⟩,sz (by simp),fun p hp => ?_⟩
        exact k1 hb p _ _ (frac_fdiv hb _ (by rw [if_pos hlt])) (bits_fdiv ba) (bits_fdiv bb) hp
      · have hlt : ¬ b < 0 := by simpa using hd
        refine ⟨_,rfl,_,rfl,_,_,rfl,rfl,⟨by omega,bg⟩,_,rfl,_,rfl,_,_,rfl,rfl,⟨by omega,bg⟩,sz (by simp),fun p hp => ?_⟩
        exact k1 hb p _ _ (frac_fdiv hb _ (by rw [if_neg hlt])) (bits_fdiv ba) (bits_fdiv bb) hp
theorem S_floor_of : FnScope ["a"] ["a"] (defScope (top 18)) := ⟨rfl,rfl,rfl,by decide +kernel,rfl,by decide +kernel,by decide +kernel⟩
theorem fn_floor_of (D_floor_of : Df K mg "floor_of" (top 18)) : Fn P w K mg base "floor_of" ["a"] 1 spFloor := by
  refine D_floor_of.fn S_floor_of (fun _ _ _ _ _ _ us hl => by obtain ⟨_,rfl⟩ := len1 hl; rfl) (fun vs H Q E h => ?_) (fun f cdv A outer s H vs Q E hr h => ?_)
  · obtain ⟨p,a,b,rfl,_⟩ := h
    rfl
  · obtain ⟨p,a,b,rfl,hp,⟨hb,bb⟩,k⟩ := h
    refine ⟨_,(pss_one (ps_ret (pe_op op_fdivP (pe_ix ix_tup (pv 0) pe_int (fun _ _ => rfl)) (pe_ix ix_tup (pv 0) pe_int (fun _ _ => rfl))))),?_⟩
    exact ⟨_,rfl,p,_,_,_,rfl,rfl,SqT.of hp,rfl,_,rfl,p,_,_,_,rfl,rfl,SqT.of hp,rfl,a,b,rfl,rfl,⟨hb,bits_le bb (by decide)⟩,k⟩
theorem S_is_ratio : FnScope ["thing"] ["thing"] (defScope (top 21)) := ⟨rfl,rfl,rfl,by decide +kernel,rfl,by decide +kernel,by decide +kernel⟩
theorem fn_is_ratio (D_is_ratio : Df K mg "is_ratio" (top 21)) (F_is_whole : Fn P w K mg base "is_whole" ["thing"] 1 spWhole) (F_common_divisor : Fn P w K mg base "common_divisor" ["one","other"] 1 spGcd) (T : Txt mg) : Fn P w K mg base "is_ratio" ["thing"] 2 spLow := by
  refine D_is_ratio.fn S_is_ratio (fun _ _ _ _ _ _ us hl => by obtain ⟨_,rfl⟩ := len1 hl; rfl) (fun vs H Q E h => ?_) (fun f cdv A outer s H vs Q E hr h => ?_)
  · obtain ⟨x,rfl,_⟩ := h
    rfl
  · obtain ⟨x,rfl,th,q⟩ := h
    obtain ⟨t,k⟩ := th.kn
    refine ⟨_,(pss_cons (ps_if (pw_or (pt_not (pt_val (pe_callB call_isinst (by rfl) T.z_isinstance bt_isinstance (pa_cons (pv 0) (pa_cons (pe_ty T.z_tuple bt_tuple) pa_nil))))) (pw_or1 (pt_cmpR op_ne (pe_callB call_len_seq (by rfl) T.z_len bt_len (pa_cons (pv 0) pa_nil)) pe_int (nomark _)))).pt (pss_one (ps_ret pe_bl)) pss_nil) (pss_cons (ps_if (pw_or (pt_not (pt_val (pe_fn F_is_whole (hr.mono (by decide)) (by rfl) (pa_cons (pe_ix ix_tup (pv 0) pe_int (fun _ _ => rfl)) pa_nil)))) (pw_or1 (pt_not (pt_val (pe_fn F_is_whole (hr.mono (by decide)) (by rfl) (pa_cons (pe_ix ix_tup (pv 0) pe_int (fun _ _ => rfl)) pa_nil)))))).pt (pss_one (ps_ret pe_bl)) pss_nil) (pss_one (ps_ret (pe_and (pe_cmpR op_ge (pe_ix ix_tup (pv 0) pe_int (fun _ _ => rfl)) pe_int (nomark _)) (pe_one (pe_cmpR op_eq (pe_fn F_common_divisor (hr.mono (by decide)) (by rfl) (pa_cons (pe_ix ix_tup (pv 0) pe_int (fun _ _ => rfl)) (pa_cons (pe_ix ix_tup (pv 0) pe_int (fun _ _ => rfl)) pa_nil))) pe_int (nomark _)))))))),?_⟩
    refine ⟨_,rfl,x,t,"tuple",rfl,k,.inr (.inr (.inl rfl)),_,rfl,?_⟩
    rcases Kn.cases_tup k with ⟨p,xs,rfl,e,rfl⟩ | ⟨hl,hs⟩
    · -- a tuple
      rw [lowV_tup e] at q
      refine iteF ?_
      refine ⟨_,rfl,p,xs,rfl,.inr (SqT.of e),rfl,_,rfl,?_⟩
      refine ite3 (fun hc => ?_) (fun hc => ?_)
      · have hn : xs.length ≠ 2 := by
          intro z
          rw [z] at hc
          exact absurd hc (by decide)
        rw [lowL_len hn] at q
        exact q
      · have hn : xs.length = 2 := by
          have z : (xs.length : Int) = 2 := by simpa using hc
          omega
        match xs,hn,e,q with
        | [y,z],_,e,q =>
          obtain ⟨ty,ky⟩ := th.parts p _ rfl e y (by simp)
          obtain ⟨tz,kz⟩ := th.parts p _ rfl e z (by simp)
          refine ⟨_,rfl,p,_,_,_,rfl,rfl,SqT.of e,rfl,y,ty,rfl,ky,_,rfl,?_⟩
          rcases Kn.cases_int ky with ⟨a,rfl,rfl⟩ | ⟨ny,ey⟩
          · refine iteF ?_
            refine ⟨_,rfl,p,_,_,_,rfl,rfl,SqT.of e,rfl,z,tz,rfl,kz,_,rfl,?_⟩
            rcases Kn.cases_int kz with ⟨b,rfl,rfl⟩ | ⟨nz,ez⟩
            · refine iteF ?_
              refine ⟨_,rfl,p,_,_,_,rfl,rfl,SqT.of e,rfl,b,1,rfl,rfl,_,rfl,?_⟩
              have q' : Q (.bl (lowB a b)) H := q
              unfold lowB at q'
              refine ite3 (fun hc => ?_) (fun hc => ?_)
              · refine ⟨_,rfl,p,_,_,_,rfl,rfl,SqT.of e,rfl,_,rfl,p,_,_,_,rfl,rfl,SqT.of e,rfl,a,b,rfl,rfl,?_⟩
                rw [hc,Bool.true_and] at q'
                have e1 : decide (V.int (Int.gcd a b : Int) = V.int 1) = decide (Int.gcd a b = 1) := by
                  rw [Bool.eq_iff_iff]
                  simp
                  omega
                rw [← e1] at q'
                exact q'
              · rw [hc,Bool.false_and] at q'
                exact q'
            · rw [ez,lowL_snd nz] at *
              exact q
          · rw [ey,lowL_fst ny] at *
            exact q
    · rw [hs]
      rw [hl] at q
      exact q
theorem S_last_of : FnScope ["line"] ["line"] (defScope (top 28)) := ⟨rfl,rfl,rfl,by decide +kernel,rfl,by decide +kernel,by decide +kernel⟩
theorem fn_last_of (D_last_of : Df K mg "last_of" (top 28)) (T : Txt mg) : Fn P w K mg base "last_of" ["line"] 1 spLast := by
  refine D_last_of.fn S_last_of (fun _ _ _ _ _ _ us hl => by obtain ⟨_,rfl⟩ := len1 hl; rfl) (fun vs H Q E h => ?_) (fun f cdv A outer s H vs Q E hr h => ?_)
  · obtain ⟨p,xs,rfl,_⟩ := h
    rfl
  · obtain ⟨p,xs,rfl,e,q⟩ := h
    exact ⟨_,(pss_one (ps_ret (pe_op op_sub (pe_callB call_len_seq (by rfl) T.z_len bt_len (pa_cons (pv 0) pa_nil)) pe_int))),_,rfl,p,xs,rfl,.inl (SqL.of e),_,_,rfl,rfl,q⟩
theorem S_is_place : FnScope ["line","thing"] ["line","thing"] (defScope (top 30)) := ⟨rfl,rfl,rfl,by decide +kernel,rfl,by decide +kernel,by decide +kernel⟩
theorem fn_is_place (D_is_place : Df K mg "is_place" (top 30)) (F_is_ratio : Fn P w K mg base "is_ratio" ["thing"] 2 spLow) (F_last_of : Fn P w K mg base "last_of" ["line"] 1 spLast) : Fn P w K mg base "is_place" ["line","thing"] 3 spIsPlace := by
  refine D_is_place.fn S_is_place (fun _ _ _ _ _ _ us hl => by obtain ⟨_,_,rfl⟩ := len2 hl; rfl) (fun vs H Q E h => ?_) (fun f cdv A outer s H vs Q E hr h => ?_)
  · obtain ⟨p,xs,x,rfl,_⟩ := h
    rfl
  · obtain ⟨p,xs,x,rfl,e,hl,th,q⟩ := h
    refine ⟨_,(pss_one (ps_ret (pe_and (pe_fn F_is_ratio (hr.mono (by decide)) (by rfl) (pa_cons (pv 1) pa_nil)) (pe_one (pe_chain op_le op_le pe_int (pe_ix ix_tup (pv 1) pe_int (fun _ _ => rfl)) (pe_op op_mulX (pe_fn F_last_of (hr.mono (by decide)) (by rfl) (pa_cons (pv 0) pa_nil)) (pe_ix ix_tup (pv 1) pe_int (fun _ _ => rfl)))))))),?_⟩
    refine ⟨_,rfl,x,rfl,th,_,rfl,ite3 (fun hc => ?_) (fun hc => ?_)⟩
    · obtain ⟨u,a,b,rfl,eu,lw⟩ := lowV_inv hc
      rw [placeV_tup eu,low_B lw,Bool.true_and] at q
      refine ⟨_,rfl,u,_,_,_,rfl,rfl,SqT.of eu,rfl,_,_,rfl,rfl,_,rfl,ite3 (fun hd => ?_) (fun hd => ?_)⟩
      · rw [hd,Bool.true_and] at q
        exact ⟨_,rfl,p,xs,rfl,e,_,rfl,u,_,_,_,rfl,rfl,SqT.of eu,rfl,_,_,rfl,rfl,CM.l (lt64s (by omega) (by omega)),_,_,rfl,rfl,q⟩
      · rw [hd,Bool.false_and] at q
        exact q
    · rw [placeV_low hc] at q
      exact q
theorem S_look_at_place : FnScope ["line","thing"] ["line","thing"] (defScope (top 31)) := ⟨rfl,rfl,rfl,by decide +kernel,rfl,by decide +kernel,by decide +kernel⟩
theorem fn_look_at_place {C : Addr} (D_look_at_place : Df K mg "look_at_place" (top 31)) (O_NoPlace : ExcC K mg "NoPlace" C) (F_is_place : Fn P w K mg base "is_place" ["line","thing"] 3 spIsPlace) : Fx P w K mg base "look_at_place" ["line","thing"] 4 [] (spLook C) := by
  refine D_look_at_place.fx S_look_at_place (fun _ _ _ _ _ _ us hl => by obtain ⟨_,_,rfl⟩ := len2 hl; rfl) (fun vs H Q E h => ?_) (fun f cdv A outer s H vs Q E hr h => ?_)
  · obtain ⟨p,xs,x,rfl,_⟩ := h
    rfl
  · obtain ⟨p,xs,x,rfl,e,hl,th,k0,k1⟩ := h
    refine ⟨_,(pss_one (ps_if (pt_not (pt_val (pe_fn F_is_place (hr.mono (by decide)) (by rfl) (pa_cons (pv 0) (pa_cons (pv 1) pa_nil))))) (pss_one (ps_raise O_NoPlace (by rfl))) pss_nil)),?_⟩
    refine ⟨_,rfl,_,rfl,p,xs,x,rfl,e,hl,th,_,rfl,ite3 (fun hc => ?_) (fun hc => ?_)⟩
    · exact k0 (by simpa using hc)
    · exact k1 (by simpa using hc)
theorem S_plus : FnScope ["a","b"] ["a","b"] (defScope (top 13)) := ⟨rfl,rfl,rfl,by decide +kernel,rfl,by decide +kernel,by decide +kernel⟩
theorem fn_plus {C : Addr} (D_plus : Df K mg "plus" (top 13)) (F_ratio : Fx P w K mg base "ratio" ["top","bottom"] 2 [.int 1] (spRatioN C)) : Fn P w K mg base "plus" ["a","b"] 3 (spBin (fun a b c d => a * d + c * b) (fun a b c d => b * d)) := by
  refine D_plus.fn S_plus (fun _ _ _ _ _ _ us hl => by obtain ⟨_,_,rfl⟩ := len2 hl; rfl) (fun vs H Q E h => ?_) (fun f cdv A outer s H vs Q E hr h => ?_)
  · obtain ⟨p,q,a,b,c,d,n,rfl,_⟩ := h
    rfl
  · obtain ⟨p,q,a,b,c,d,n,rfl,fp,fq,hn,hden,k⟩ := h
    have ep := fp.at_
    have eq := fq.at_
    have cm : ∀ {i j : Int},bits i ≤ n → bits j ≤ n → CM i j := fun hi hj => CM.b hi hj (Nat.le_trans hn (by decide)) (Nat.le_trans hn (by decide))
    have fin : ∀ (r : Addr) (t u : Int),Frac (a * d + c * b) (b * d) t u → bits t ≤ 2 * n + 1 → bits u ≤ 2 * n + 1 → H r = none → Q (.ref r) (upd H r (.tup [.int t,.int u])) := fun r t u fr bt bu hr' => by
      obtain ⟨H1,e1,s1,f1⟩ := grow (o := .tup [.int t,.int u]) hr'
      rw [e1]
      exact k r t u H1 fr ⟨f1,fr.low,bt,bu⟩ s1
    refine ⟨_,(pss_one (ps_ret (pe_fx0 F_ratio (hr.mono (by decide)) (by rfl) (pa_cons (pe_op op_add (pe_op op_mulX (pe_ix ix_tup (pv 0) pe_int (fun _ _ => rfl)) (pe_ix ix_tup (pv 1) pe_int (fun _ _ => rfl))) (pe_op op_mulX (pe_ix ix_tup (pv 1) pe_int (fun _ _ => rfl)) (pe_ix ix_tup (pv 0) pe_int (fun _ _ => rfl)))) (pa_cons (pe_op op_mulX (pe_ix ix_tup (pv 0) pe_int (fun _ _ => rfl)) (pe_ix ix_tup (pv 1) pe_int (fun _ _ => rfl))) pa_nil))))),?_⟩
    refine ⟨_,rfl,p,_,_,_,rfl,rfl,SqT.of ep,rfl,_,rfl,q,_,_,_,rfl,rfl,SqT.of eq,rfl,_,_,rfl,rfl,cm fp.ba fq.bb,_,rfl,q,_,_,_,rfl,rfl,SqT.of eq,rfl,_,rfl,p,_,_,_,rfl,rfl,SqT.of ep,rfl,_,_,rfl,rfl,cm fq.ba fp.bb,_,_,rfl,rfl,?_⟩
    refine ⟨_,rfl,p,_,_,_,rfl,rfl,SqT.of ep,rfl,_,rfl,q,_,_,_,rfl,rfl,SqT.of eq,rfl,_,_,rfl,rfl,cm fp.bb fq.bb,_,_,2 * n + 1,rfl,⟨bits_le (bits_add (n := 2 * n) (bits_le (bits_mul fp.ba fq.bb) (by omega)) (bits_le (bits_mul fq.ba fp.bb) (by omega))) (by omega),bits_le (bits_mul fp.bb fq.bb) (by omega),by omega⟩,fun z => absurd z hden,fun _ r t u fr bt bu hr' => fin r t u fr bt bu hr'⟩
theorem S_minus : FnScope ["a","b"] ["a","b"] (defScope (top 14)) := ⟨rfl,rfl,rfl,by decide +kernel,rfl,by decide +kernel,by decide +kernel⟩
theorem fn_minus {C : Addr} (D_minus : Df K mg "minus" (top 14)) (F_ratio : Fx P w K mg base "ratio" ["top","bottom"] 2 [.int 1] (spRatioN C)) : Fn P w K mg base "minus" ["a","b"] 3 (spBin (fun a b c d => a * d - c * b) (fun a b c d => b * d)) := by
  refine D_minus.fn S_minus (fun _ _ _ _ _ _ us hl => by obtain ⟨_,_,rfl⟩ := len2 hl; rfl) (fun vs H Q E h => ?_) (fun f cdv A outer s H vs Q E hr h => ?_)
  · obtain ⟨p,q,a,b,c,d,n,rfl,_⟩ := h
    rfl
  · obtain ⟨p,q,a,b,c,d,n,rfl,fp,fq,hn,hden,k⟩ := h
    have ep := fp.at_
    have eq := fq.at_
    have cm : ∀ {i j : Int},bits i ≤ n → bits j ≤ n → CM i j := fun hi hj => CM.b hi hj (Nat.le_trans hn (by decide)) (Nat.le_trans hn (by decide))
    have fin : ∀ (r : Addr) (t u : Int),Frac (a * d - c * b) (b * d) t u → bits t ≤ 2 * n + 1 → bits u ≤ 2 * n + 1 → H r = none → Q (.ref r) (upd H r (.tup [.int t,.int u])) := fun r t u fr bt bu hr' => by
      obtain ⟨H1,e1,s1,f1⟩ := grow (o := .tup [.int t,.int u]) hr'
      rw [e1]
      exact k r t u H1 fr ⟨f1,fr.low,bt,bu⟩ s1
    refine ⟨_,(pss_one (ps_ret (pe_fx0 F_ratio (hr.mono (by decide)) (by rfl) (pa_cons (pe_op op_sub (pe_op op_mulX (pe_ix ix_tup (pv 0) pe_int (fun _ _ => rfl)) (pe_ix ix_tup (pv 1) pe_int (fun _ _ => rfl))) (pe_op op_mulX (pe_ix ix_tup (pv 1) pe_int (fun _ _ => rfl)) (pe_ix ix_tup (pv 0) pe_int (fun _ _ => rfl)))) (pa_cons (pe_op op_mulX (pe_ix ix_tup (pv 0) pe_int (fun _ _ => rfl)) (pe_ix ix_tup (pv 1) pe_int (fun _ _ => rfl))) pa_nil))))),?_⟩
    refine ⟨_,rfl,p,_,_,_,rfl,rfl,SqT.of ep,rfl,_,rfl,q,_,_,_,rfl,rfl,SqT.of eq,rfl,_,_,rfl,rfl,cm fp.ba fq.bb,_,rfl,q,_,_,_,rfl,rfl,SqT.of eq,rfl,_,rfl,p,_,_,_,rfl,rfl,SqT.of ep,rfl,_,_,rfl,rfl,cm fq.ba fp.bb,_,_,rfl,rfl,?_⟩
    refine ⟨_,rfl,p,_,_,_,rfl,rfl,SqT.of ep,rfl,_,rfl,q,_,_,_,rfl,rfl,SqT.of eq,rfl,_,_,rfl,rfl,cm fp.bb fq.bb,_,_,2 * n + 1,rfl,⟨bits_le (bits_sub (n := 2 * n) (bits_le (bits_mul fp.ba fq.bb) (by omega)) (bits_le (bits_mul fq.ba fp.bb) (by omega))) (by omega),bits_le (bits_mul fp.bb fq.bb) (by omega),by omega⟩,fun z => absurd z hden,fun _ r t u fr bt bu hr' => fin r t u fr bt bu hr'⟩
theorem S_times : FnScope ["a","b"] ["a","b"] (defScope (top 15)) := ⟨rfl,rfl,rfl,by decide +kernel,rfl,by decide +kernel,by decide +kernel⟩
theorem fn_times {C : Addr} (D_times : Df K mg "times" (top 15)) (F_ratio : Fx P w K mg base "ratio" ["top","bottom"] 2 [.int 1] (spRatioN C)) : Fn P w K mg base "times" ["a","b"] 3 (spBin (fun a b c d => a * c) (fun a b c d => b * d)) := by
  refine D_times.fn S_times (fun _ _ _ _ _ _ us hl => by obtain ⟨_,_,rfl⟩ := len2 hl; rfl) (fun vs H Q E h => ?_) (fun f cdv A outer s H vs Q E hr h => ?_)
  · obtain ⟨p,q,a,b,c,d,n,rfl,_⟩ := h
    rfl
  · obtain ⟨p,q,a,b,c,d,n,rfl,fp,fq,hn,hden,k⟩ := h
    have ep := fp.at_
    have eq := fq.at_
    have cm : ∀ {i j : Int},bits i ≤ n → bits j ≤ n → CM i j := fun hi hj => CM.b hi hj (Nat.le_trans hn (by decide)) (Nat.le_trans hn (by decide))
    have fin : ∀ (r : Addr) (t u : Int),Frac (a * c) (b * d) t u → bits t ≤ 2 * n + 1 → bits u ≤ 2 * n + 1 → H r = none → Q (.ref r) (upd H r (.tup [.int t,.int u])) := fun r t u fr bt bu hr' => by
      obtain ⟨H1,e1,s1,f1⟩ := grow (o := .tup [.int t,.int u]) hr'
      rw [e1]
      exact k r t u H1 fr ⟨f1,fr.low,bt,bu⟩ s1
    refine ⟨_,(pss_one (ps_ret (pe_fx0 F_ratio (hr.mono (by decide)) (by rfl) (pa_cons (pe_op op_mulX (pe_ix ix_tup (pv 0) pe_int (fun _ _ => rfl)) (pe_ix ix_tup (pv 1) pe_int (fun _ _ => rfl))) (pa_cons (pe_op op_mulX (pe_ix ix_tup (pv 0) pe_int (fun _ _ => rfl)) (pe_ix ix_tup (pv 1) pe_int (fun _ _ => rfl))) pa_nil))))),?_⟩
    exact ⟨_,rfl,p,_,_,_,rfl,rfl,SqT.of ep,rfl,_,rfl,q,_,_,_,rfl,rfl,SqT.of eq,rfl,_,_,rfl,rfl,cm fp.ba fq.ba,_,rfl,p,_,_,_,rfl,rfl,SqT.of ep,rfl,_,rfl,q,_,_,_,rfl,rfl,SqT.of eq,rfl,_,_,rfl,rfl,cm fp.bb fq.bb,_,_,2 * n + 1,rfl,⟨bits_le (bits_mul fp.ba fq.ba) (by omega),bits_le (bits_mul fp.bb fq.bb) (by omega),by omega⟩,fun z => absurd z hden,fun _ r t u fr bt bu hr' => fin r t u fr bt bu hr'⟩
theorem S_number_at : FnScope ["begin","end","place","rest"] ["begin","end","place"] (defScope (top 34)) := ⟨rfl,rfl,rfl,by decide +kernel,rfl,by decide +kernel,by decide +kernel⟩
theorem fn_number_at {C : Addr} (D_number_at : Df K mg "number_at" (top 34)) (F_ratio : Fx P w K mg base "ratio" ["top","bottom"] 2 [.int 1] (spRatioN C)) : Fn P w K mg base "number_at" ["begin","end","place"] 3 spNumAt := by
  refine D_number_at.fn S_number_at (fun _ _ _ _ _ _ us hl => by obtain ⟨_,_,_,rfl⟩ := len3 hl; rfl) (fun vs H Q E h => ?_) (fun f cdv A outer s H vs Q E hr h => ?_)
  · obtain ⟨x,y,p,t,b,rfl,_⟩ := h
    rfl
  · obtain ⟨x,y,p,t,b,rfl,fp,bx,by',k⟩ := h
    have hb := fp.low.pos
    have ep := fp.at_
    have br : bits (t % b) ≤ 120 := bits_range (Int.emod_nonneg _ (by omega)) (Int.le_of_lt (Int.emod_lt_of_pos _ (by omega))) fp.bb
    refine ⟨_,(pss_cons (ps_set (i := 3) S_number_at.nd rfl (Or.inl rfl) (pe_op op_mod (pe_ix ix_tup (pv 2) pe_int (fun _ _ => rfl)) (pe_ix ix_tup (pv 2) pe_int (fun _ _ => rfl)))) (pss_one (ps_ret (pe_fx0 F_ratio (hr.mono (by decide)) (by rfl) (pa_cons (pe_op op_add (pe_op op_mulX (pv 0) (pe_ix ix_tup (pv 2) pe_int (fun _ _ => rfl))) (pe_op op_mulX (pe_op op_sub (pv 1) (pv 0)) (pv 3))) (pa_cons (pe_ix ix_tup (pv 2) pe_int (fun _ _ => rfl)) pa_nil)))))),?_⟩
    refine ⟨_,rfl,p,_,_,_,rfl,rfl,SqT.of ep,rfl,_,rfl,p,_,_,_,rfl,rfl,SqT.of ep,rfl,_,_,rfl,rfl,(by show (0 : Int) < b; omega),?_⟩
    refine ⟨_,rfl,_,rfl,p,_,_,_,rfl,rfl,SqT.of ep,rfl,_,_,rfl,rfl,CM.b bx fp.bb (by decide) (by decide),_,rfl,_,rfl,_,_,rfl,rfl,_,rfl,_,_,rfl,rfl,CM.b (bits_sub by' bx) br (by decide) (by decide),_,_,rfl,rfl,?_⟩
    refine ⟨_,rfl,p,_,_,_,rfl,rfl,SqT.of ep,rfl,_,_,182,rfl,⟨bits_le (bits_add (n := 181) (bits_le (bits_mul bx fp.bb) (by decide)) (bits_mul (bits_sub by' bx) br)) (by decide),bits_le fp.bb (by decide),by decide⟩,fun z => absurd z (by omega),fun _ r u v fr bu bv hr' => ?_⟩
    obtain ⟨H1,e1,s1,f1⟩ := grow (o := .tup [.int u,.int v]) hr'
    rw [e1]
    exact k r u v H1 fr ⟨f1,fr.low,bu,bv⟩ s1
theorem S_point_at : FnScope ["line","place","corner","begin","end"] ["line","place"] (defScope (top 35)) := ⟨rfl,rfl,rfl,by decide +kernel,rfl,by decide +kernel,by decide +kernel⟩
theorem fn_point_at {C : Addr} (D_point_at : Df K mg "point_at" (top 35)) (F_look_at_place : Fx P w K mg base "look_at_place" ["line","thing"] 4 [] (spLook C)) (F_floor_of : Fn P w K mg base "floor_of" ["a"] 1 spFloor) (F_last_of : Fn P w K mg base "last_of" ["line"] 1 spLast) (F_number_at : Fn P w K mg base "number_at" ["begin","end","place"] 3 spNumAt) (T : Txt mg) :
    Fx P w K mg base "point_at" ["line","place"] 5 [] (spPoint C) := by
  refine D_point_at.fx S_point_at (fun _ _ _ _ _ _ us hl => by obtain ⟨_,_,rfl⟩ := len2 hl; rfl) (fun vs H Q E h => ?_) (fun f cdv A outer s H vs Q E hr h => ?_)
  · obtain ⟨l,qs,x,rfl,_⟩ := h
    rfl
  · obtain ⟨l,qs,x,rfl,L,h1,h20,th,k0,k1⟩ := h
    have hll : (qs.map fun (q : Addr × Int × Int) => V.ref q.1).length = qs.length := List.length_map _
    refine ⟨_,(pss_cons (ps_expr (pe_fx F_look_at_place (hr.mono (by decide)) (by rfl) (pa_cons (pv 0) (pa_cons (pv 1) pa_nil)))) (pss_cons (ps_set (i := 2) S_point_at.nd rfl (Or.inl rfl) (pe_fn F_floor_of (hr.mono (by decide)) (by rfl) (pa_cons (pv 1) pa_nil))) (pss_cons (ps_set (i := 3) S_point_at.nd rfl (Or.inl rfl) (pe_ix ix_list (pv 0) (pv 2) (fun _ _ => rfl))) (pss_cons (ps_set (i := 4) S_point_at.nd rfl (Or.inl rfl) (pe_ix ix_list (pv 0) (pe_callB (call_min2 rfl) (by rfl) T.z_min bt_min (pa_cons (pe_op op_add (pv 2) pe_int) (pa_cons (pe_fn F_last_of (hr.mono (by decide)) (by rfl) (pa_cons (pv 0) pa_nil)) pa_nil))) (fun _ _ => rfl))) (pss_one (ps_ret (pe_tup (pa_cons (pe_fn F_number_at (hr.mono (by decide)) (by rfl) (pa_cons (pe_ix ix_tup (pv 3) pe_int (fun _ _ => rfl)) (pa_cons (pe_ix ix_tup (pv 4) pe_int (fun _ _ => rfl)) (pa_cons (pv 1) pa_nil)))) (pa_cons (pe_fn F_number_at (hr.mono (by decide)) (by rfl) (pa_cons (pe_ix ix_tup (pv 3) pe_int (fun _ _ => rfl)) (pa_cons (pe_ix ix_tup (pv 4) pe_int (fun _ _ => rfl)) (pa_cons (pv 1) pa_nil)))) pa_nil))))))))),?_⟩
    refine ⟨_,rfl,_,rfl,l,_,x,rfl,L.lst,by rw [hll]; omega,th,fun z => k0 (by rw [hll] at z; exact z),fun hx => ?_⟩
    rw [hll] at hx
    obtain ⟨p,t,b,rfl,ep,lw,t0,t1⟩ := placeV_inv hx
    obtain ⟨bt,bb,k⟩ := k1 p t b rfl ep lw t0 t1
    have hb := lw.pos
    have fp : Fr2 H p t b 120 := ⟨ep,lw,bt,bb⟩
    have q0 : 0 ≤ t / b := fl_nn (by omega) t0
    have qn : t / b ≤ (qs.length : Int) - 1 := Int.ediv_le_of_le_mul (by omega) t1
    refine ⟨_,rfl,p,t,b,rfl,ep,⟨by omega,bits_le bb (by decide)⟩,?_⟩
    have atq : ∀ (j : Nat) (k : Int),k = (j : Int) → j < qs.length → atI (qs.map fun (q : Addr × Int × Int) => V.ref q.1) k = some (.ref (qs.getD j (0,0,0)).1) ∧ qs.getD j (0,0,0) ∈ qs := fun j k ek hj => by
      have e1 : qs.getD j (0,0,0) = qs[j] := by rw [List.getD_eq_getElem?_getD,List.getElem?_eq_getElem hj]; rfl
      rw [e1]
      subst ek
      exact ⟨atI_nat (by rw [List.getElem?_map,List.getElem?_eq_getElem hj]; rfl),List.getElem_mem hj⟩
    obtain ⟨a0,m0⟩ := atq (t / b).toNat (t / b) (by omega) (by omega)
    refine ⟨_,rfl,_,rfl,l,_,_,_,rfl,rfl,SqL.of L.lst,a0,?_⟩
    obtain ⟨a1,m1⟩ := atq (min ((t / b).toNat + 1) (qs.length - 1)) (if ((((qs.map fun (q : Addr × Int × Int) => V.ref q.1).length : Nat) : Int) - 1) < t / b + 1 then ((((qs.map fun (q : Addr × Int × Int) => V.ref q.1).length : Nat) : Int) - 1) else t / b + 1) (by rw [hll]; split <;> omega) (by omega)
    refine ⟨_,rfl,_,rfl,_,_,rfl,rfl,_,rfl,l,_,rfl,L.lst,_,_,rfl,l,_,_,_,rfl,rfl,SqL.of L.lst,a1,?_⟩
    have c0 := L.crn _ m0
    have c1 := L.crn _ m1
    refine ⟨_,rfl,_,_,_,_,rfl,rfl,SqT.of c0.1,rfl,_,rfl,_,_,_,_,rfl,rfl,SqT.of c1.1,rfl,_,rfl,_,_,p,t,b,rfl,fp,bits_le c0.2.1 (by decide),bits_le c1.2.1 (by decide),fun rx u v H1 fr1 g1 s1 => ?_⟩
    refine ⟨_,rfl,_,_,_,_,rfl,rfl,SqT.of (s1 _ _ c0.1),rfl,_,rfl,_,_,_,_,rfl,rfl,SqT.of (s1 _ _ c1.1),rfl,_,rfl,_,_,p,t,b,rfl,fp.mono s1,bits_le c0.2.2 (by decide),bits_le c1.2.2 (by decide),fun ry c d H2 fr2 g2 s2 => ?_⟩
    refine ⟨sz (by simp),fun r hr' => ?_⟩
    obtain ⟨H3,e3,s3,f3⟩ := grow (o := .tup [.ref rx,.ref ry]) hr'
    rw [e3]
    exact k r H3 ⟨⟨rx,ry,u,v,c,d,f3,(g1.mono s2).mono s3,g2.mono s3,fr1,fr2⟩⟩ (s1.trans (s2.trans s3))
theorem S_step_from : FnScope ["begin","end"] ["begin","end"] (defScope (top 37)) := ⟨rfl,rfl,rfl,by decide +kernel,rfl,by decide +kernel,by decide +kernel⟩
theorem fn_step_from (D_step_from : Df K mg "step_from" (top 37)) (F_minus : Fn P w K mg base "minus" ["a","b"] 3 (spBin (fun a b c d => a * d - c * b) (fun a b c d => b * d))) : Fn P w K mg base "step_from" ["begin","end"] 4 spStep := by
  refine D_step_from.fn S_step_from (fun _ _ _ _ _ _ us hl => by obtain ⟨_,_,rfl⟩ := len2 hl; rfl) (fun vs H Q E h => ?_) (fun f cdv A outer s H vs Q E hr h => ?_)
  · obtain ⟨p,q,u,v,c,d,u',v',c',d',rfl,_⟩ := h
    rfl
  · obtain ⟨p,q,u,v,c,d,u',v',c',d',rfl,fp,fq,k⟩ := h
    obtain ⟨px,py,ep,gx,gy⟩ := fp.ex
    obtain ⟨qx,qy,eq,hx,hy⟩ := fq.ex
    have nz : ∀ {x y : Int},1 ≤ x → 1 ≤ y → x * y ≠ 0 := fun hx hy => Int.mul_ne_zero (by omega) (by omega)
    refine ⟨_,(pss_one (ps_ret (pe_tup (pa_cons (pe_fn F_minus (hr.mono (by decide)) (by rfl) (pa_cons (pe_ix ix_tup (pv 1) pe_int (fun _ _ => rfl)) (pa_cons (pe_ix ix_tup (pv 0) pe_int (fun _ _ => rfl)) pa_nil))) (pa_cons (pe_fn F_minus (hr.mono (by decide)) (by rfl) (pa_cons (pe_ix ix_tup (pv 1) pe_int (fun _ _ => rfl)) (pa_cons (pe_ix ix_tup (pv 0) pe_int (fun _ _ => rfl)) pa_nil))) pa_nil))))),?_⟩
    refine ⟨_,rfl,q,_,_,_,rfl,rfl,SqT.of eq,rfl,_,rfl,p,_,_,_,rfl,rfl,SqT.of ep,rfl,qx,px,u',v',u,v,182,rfl,hx,gx,by decide,nz hx.low.pos gx.low.pos,fun r1 a b H1 fr1 g1 s1 => ?_⟩
    refine ⟨_,rfl,q,_,_,_,rfl,rfl,SqT.of (s1 _ _ eq),rfl,_,rfl,p,_,_,_,rfl,rfl,SqT.of (s1 _ _ ep),rfl,qy,py,c',d',c,d,182,rfl,hy.mono s1,gy.mono s1,by decide,nz hy.low.pos gy.low.pos,fun r2 e f H2 fr2 g2 s2 => ?_⟩
    refine ⟨sz (by simp),fun r hr' => ?_⟩
    obtain ⟨H3,e3,s3,f3⟩ := grow (o := .tup [.ref r1,.ref r2]) hr'
    rw [e3]
    exact k r a b e f H3 fr1 fr2 ⟨⟨r1,r2,f3,(g1.mono s2).mono s3,g2.mono s3⟩⟩ (s1.trans (s2.trans s3))
theorem S_inner_product : FnScope ["one","other"] ["one","other"] (defScope (top 38)) := ⟨rfl,rfl,rfl,by decide +kernel,rfl,by decide +kernel,by decide +kernel⟩
theorem fn_inner_product (D_inner_product : Df K mg "inner_product" (top 38)) (F_plus : Fn P w K mg base "plus" ["a","b"] 3 (spBin (fun a b c d => a * d + c * b) (fun a b c d => b * d))) (F_times : Fn P w K mg base "times" ["a","b"] 3 (spBin (fun a b c d => a * c) (fun a b c d => b * d))) : Fn P w K mg base "inner_product" ["one","other"] 4 spInner := by
  refine D_inner_product.fn S_inner_product (fun _ _ _ _ _ _ us hl => by obtain ⟨_,_,rfl⟩ := len2 hl; rfl) (fun vs H Q E h => ?_) (fun f cdv A outer s H vs Q E hr h => ?_)
  · obtain ⟨p,a,b,e,f,rfl,_⟩ := h
    rfl
  · obtain ⟨p,a,b,e,f,rfl,fp,k⟩ := h
    obtain ⟨px,py,ep,gx,gy⟩ := fp.ex
    have nz : ∀ {x y : Int},1 ≤ x → 1 ≤ y → x * y ≠ 0 := fun hx hy => Int.mul_ne_zero (by omega) (by omega)
    refine ⟨_,(pss_one (ps_ret (pe_fn F_plus (hr.mono (by decide)) (by rfl) (pa_cons (pe_fn F_times (hr.mono (by decide)) (by rfl) (pa_cons (pe_ix ix_tup (pv 0) pe_int (fun _ _ => rfl)) (pa_cons (pe_ix ix_tup (pv 1) pe_int (fun _ _ => rfl)) pa_nil))) (pa_cons (pe_fn F_times (hr.mono (by decide)) (by rfl) (pa_cons (pe_ix ix_tup (pv 0) pe_int (fun _ _ => rfl)) (pa_cons (pe_ix ix_tup (pv 1) pe_int (fun _ _ => rfl)) pa_nil))) pa_nil))))),?_⟩
    refine ⟨_,rfl,p,_,_,_,rfl,rfl,SqT.of ep,rfl,_,rfl,p,_,_,_,rfl,rfl,SqT.of ep,rfl,px,px,a,b,a,b,365,rfl,gx,gx,by decide,nz gx.low.pos gx.low.pos,fun r1 m n H1 fr1 g1 s1 => ?_⟩
    refine ⟨_,rfl,p,_,_,_,rfl,rfl,SqT.of (s1 _ _ ep),rfl,_,rfl,p,_,_,_,rfl,rfl,SqT.of (s1 _ _ ep),rfl,py,py,e,f,e,f,365,rfl,gy.mono s1,gy.mono s1,by decide,nz gy.low.pos gy.low.pos,fun r2 m' n' H2 fr2 g2 s2 => ?_⟩
    exact ⟨r1,r2,m,n,m',n',731,rfl,g1.mono s2,g2,by decide,nz g1.low.pos g2.low.pos,fun r s' w' H3 fr3 g3 s3 => k r m n m' n' s' w' H3 fr1 fr2 fr3 g3 (s1.trans (s2.trans s3))⟩
theorem S_square_between : FnScope ["begin","end","step"] ["begin","end"] (defScope (top 39)) := ⟨rfl,rfl,rfl,by decide +kernel,rfl,by decide +kernel,by decide +kernel⟩
theorem fn_square_between (D_square_between : Df K mg "square_between" (top 39)) (F_step_from : Fn P w K mg base "step_from" ["begin","end"] 4 spStep) (F_inner_product : Fn P w K mg base "inner_product" ["one","other"] 4 spInner) : Fn P w K mg base "square_between" ["begin","end"] 5 spSqB := by
  refine D_square_between.fn S_square_between (fun _ _ _ _ _ _ us hl => by obtain ⟨_,_,rfl⟩ := len2 hl; rfl) (fun vs H Q E h => ?_) (fun f cdv A outer s H vs Q E hr h => ?_)
  · obtain ⟨p,q,X,Y,b,X',Y',b',rfl,_⟩ := h
    rfl
  · obtain ⟨p,q,X,Y,b,X',Y',b',rfl,fp,fq,hb,hb',k⟩ := h
    obtain ⟨px,py,u,v,c,d,ep,gx,gy,f1,f2⟩ := fp.ex
    obtain ⟨qx,qy,u',v',c',d',eq,hx,hy,f3,f4⟩ := fq.ex
    refine ⟨_,(pss_cons (ps_set (i := 2) S_square_between.nd rfl (Or.inl rfl) (pe_fn F_step_from (hr.mono (by decide)) (by rfl) (pa_cons (pv 0) (pa_cons (pv 1) pa_nil)))) (pss_one (ps_ret (pe_fn F_inner_product (hr.mono (by decide)) (by rfl) (pa_cons (pv 2) (pa_cons (pv 2) pa_nil)))))),?_⟩
    refine ⟨_,rfl,_,rfl,p,q,u,v,c,d,u',v',c',d',rfl,⟨⟨px,py,ep,gx,gy⟩⟩,⟨⟨qx,qy,eq,hx,hy⟩⟩,fun r a e a' e' H1 g1 g2 pf s1 => ?_⟩
    exact ⟨_,rfl,_,rfl,r,a,e,a',e',rfl,pf,fun r2 m n m' n' s' w' H2 k1 k2 k3 g3 s2 => k r2 s' w' H2 (sq_frac f1 f2 f3 f4 g1 g2 k1 k2 k3) g3 (s1.trans s2)⟩
theorem S_square_of : FnScope ["one","x","other","y"] ["one","x","other","y"] (defScope (top 40)) := ⟨rfl,rfl,rfl,by decide +kernel,rfl,by decide +kernel,by decide +kernel⟩
theorem fn_square_of {C : Addr} (D_square_of : Df K mg "square_of" (top 40)) (F_square_between : Fn P w K mg base "square_between" ["begin","end"] 5 spSqB) (F_point_at : Fx P w K mg base "point_at" ["line","place"] 5 [] (spPoint C)) : Fx P w K mg base "square_of" ["one","x","other","y"] 6 [] (spSquare C) := by
  refine D_square_of.fx S_square_of (fun _ _ _ _ _ _ us hl => by obtain ⟨_,_,_,_,rfl⟩ := len4 hl; rfl) (fun vs H Q E h => ?_) (fun f cdv A outer s H vs Q E hr h => ?_)
  · obtain ⟨l,l',qs,qs',x,y,rfl,_⟩ := h
    rfl
  · obtain ⟨l,l',qs,qs',x,y,rfl,L,L',h1,h1',tx,ty,h⟩ := h
    refine ⟨_,(pss_one (ps_ret (pe_fn F_square_between (hr.mono (by decide)) (by rfl) (pa_cons (pe_fx F_point_at (hr.mono (by decide)) (by rfl) (pa_cons (pv 0) (pa_cons (pv 1) pa_nil))) (pa_cons (pe_fx F_point_at (hr.mono (by decide)) (by rfl) (pa_cons (pv 2) (pa_cons (pv 3) pa_nil))) pa_nil))))),?_⟩
    refine ⟨_,rfl,_,rfl,l,qs,x,rfl,L,h1.1,h1.2,tx,fun z => ?_,fun p t b ep eH lw t0 t1 => ?_⟩
    · rcases h with h | ⟨p,t,b,rfl,pl,_⟩
      · exact h.2
      · rw [show placeV ((qs.length : Int) - 1) H (.ref p) = true from pl.place] at z
        cases z
    rcases h with h | ⟨p',t',b',rfl,pl,h⟩
    · subst ep
      have z := h.1
      rw [show placeV (lst_ qs) H (.ref p) = true from placeV_of eH lw t0 t1] at z
      cases z
    cases ep
    have e2 := pl.at_
    rw [eH] at e2
    cases e2
    refine ⟨pl.bt,pl.bb,fun r H1 pt s1 => ?_⟩
    refine ⟨_,rfl,_,rfl,l',qs',y,rfl,L'.mono s1,h1'.1,h1'.2,Thing.mono ty s1,fun z => ?_,fun q u c eq' eH' lw' u0 u1 => ?_⟩
    · rcases h with h | ⟨q,u,c,rfl,pl',_⟩
      · exact h.2 H1 s1
      · rw [show placeV ((qs'.length : Int) - 1) H1 (.ref q) = true from (pl'.mono s1).place] at z
        cases z
    rcases h with h | ⟨q',u',c',rfl,pl',k⟩
    · subst eq'
      have z := h.1
      obtain ⟨kd,kn⟩ := ty.kn
      rw [← placeV_same kn s1,show placeV (lst_ qs') H1 (.ref q) = true from placeV_of eH' lw' u0 u1] at z
      cases z
    cases eq'
    have e3 := (pl'.mono s1).at_
    rw [eH'] at e3
    cases e3
    refine ⟨pl'.bt,pl'.bb,fun r' H2 pt' s2 => ?_⟩
    have hb := lw.pos
    have hc := lw'.pos
    exact ⟨r,r',_,_,_,_,_,_,rfl,pt.mono s2,pt',by omega,by omega,fun r2 s' w' H3 fr f3 s3 => k r2 s' w' H3 fr f3 (s1.trans (s2.trans s3))⟩
theorem fx_imp {x : Str} {ps : List Str} {k : Nat} {ds : List V} {sp sp' : Sp} (F : Fx P w K mg base x ps k ds sp) (h : ∀ vs H Q E,sp' vs H Q E → sp vs H Q E) : Fx P w K mg base x ps k ds sp' := by
  obtain ⟨f,fd,its,h1,h2,h3,h4,h5,h6⟩ := F.ex
  exact ⟨⟨f,fd,its,h1,h2,h3,h4,h5,h6.imp h⟩⟩
theorem ratio_weak {C : Addr} (F : Fx P w K mg base "ratio" ["top","bottom"] 2 [.int 1] (spRatioN C)) : Fx P w K mg base "ratio" ["top","bottom"] 2 [.int 1] (spRatio C) :=
  fx_imp F fun vs H Q E ⟨a,b,e,bd,h0,h1⟩ => ⟨a,b,2000,e,⟨bd.1,bd.2,Nat.le_refl _⟩,h0,h1⟩
theorem S_less : FnScope ["a","b"] ["a","b"] (defScope (top 17)) := ⟨rfl,rfl,rfl,by decide +kernel,rfl,by decide +kernel,by decide +kernel⟩
theorem fn_less (D_less : Df K mg "less" (top 17)) : Fn P w K mg base "less" ["a","b"] 1 spLess := by
  refine D_less.fn S_less (fun _ _ _ _ _ _ us hl => by obtain ⟨_,_,rfl⟩ := len2 hl; rfl) (fun vs H Q E h => ?_) (fun f cdv A outer s H vs Q E hr h => ?_)
  · obtain ⟨p,q,a,b,c,d,rfl,_⟩ := h
    rfl
  · obtain ⟨p,q,a,b,c,d,rfl,hp,hq,⟨ba,bb,bc,bd⟩,k⟩ := h
    refine ⟨_,(pss_one (ps_ret (pe_cmpR op_lt (pe_op op_mulX (pe_ix ix_tup (pv 0) pe_int (fun _ _ => rfl)) (pe_ix ix_tup (pv 1) pe_int (fun _ _ => rfl))) (pe_op op_mulX (pe_ix ix_tup (pv 1) pe_int (fun _ _ => rfl)) (pe_ix ix_tup (pv 0) pe_int (fun _ _ => rfl))) (nomark _)))),?_⟩
    refine ⟨_,rfl,p,_,_,_,rfl,rfl,SqT.of hp,rfl,_,rfl,q,_,_,_,rfl,rfl,SqT.of hq,rfl,a,d,rfl,rfl,CM.b ba bd (by decide) (by decide),?_⟩
    refine ⟨_,rfl,q,_,_,_,rfl,rfl,SqT.of hq,rfl,_,rfl,p,_,_,_,rfl,rfl,SqT.of hp,rfl,c,b,rfl,rfl,CM.b bc bb (by decide) (by decide),?_⟩
    exact ⟨_,_,rfl,rfl,k⟩
theorem S_share_a_stretch : FnScope ["one","other","low","high"] ["one","other"] (defScope (top 36)) := ⟨rfl,rfl,rfl,by decide +kernel,rfl,by decide +kernel,by decide +kernel⟩
theorem fn_share_a_stretch {C : Addr} (D_share_a_stretch : Df K mg "share_a_stretch" (top 36)) (F_less : Fn P w K mg base "less" ["a","b"] 1 spLess) (F_floor_of : Fn P w K mg base "floor_of" ["a"] 1 spFloor) (F_ratio : Fx P w K mg base "ratio" ["top","bottom"] 2 [.int 1] (spRatio C)) : Fn P w K mg base "share_a_stretch" ["one","other"] 3 spShare := by
  refine D_share_a_stretch.fn S_share_a_stretch (fun _ _ _ _ _ _ us hl => by obtain ⟨_,_,rfl⟩ := len2 hl; rfl) (fun vs H Q E h => ?_) (fun f cdv A outer s H vs Q E hr h => ?_)
  · obtain ⟨p,q,a,b,c,d,rfl,_⟩ := h
    rfl
  · obtain ⟨p,q,a,b,c,d,rfl,ep,eq,sa,sc,k⟩ := h
    have R : ∃ u : TS,PSs (cxOf CX0 P w K mg base ["one","other","low","high"] "share_a_stretch" (defScope (top 36)) f cdv A outer s H E).nox ((defBody (top 36)).drop 3) u ∧ ∀ (z1 z2 : Option V) (lo hi : Addr) (a b c d : Int),H lo = some (.tup [.int a,.int b]) → H hi = some (.tup [.int c,.int d]) → Small a b → Small c d →
        (∀ H',Same H H' → Q (.bl (!decide ((a / b + 1) * d < c * 1))) H') → u { nx := fun _ H' => Q .non H',rt := Q } [z1,z2,some (.ref lo),some (.ref hi)] H := by
      refine ⟨_,(pss_one (ps_ret (pe_not (pe_fn F_less (hr.mono (by decide)) (by rfl) (pa_cons (pe_fxd0 F_ratio (hr.mono (by decide)) (by rfl) (pa_cons (pe_op op_add (pe_fn F_floor_of (hr.mono (by decide)) (by rfl) (pa_cons (pv 2) pa_nil)) pe_int) pa_nil)) (pa_cons (pv 3) pa_nil)))))),?_⟩
      intro z1 z2 lo hi a b c d elo ehi sa sc k
      have b1 : bits 1 ≤ 2000 := bits_le (m := 1) (by decide) (by decide)
      have bf : bits (a / b + 1) ≤ 1001 := bits_add (bits_ediv sa.pos sa.ba) (bits_le (m := 1) (by decide) (by decide))
      refine ⟨_,rfl,lo,a,b,rfl,elo,⟨sa.pos,bits_le sa.bb (by decide)⟩,_,_,rfl,rfl,_,1,rfl,⟨bits_le bf (by decide),b1⟩,fun z => absurd z (by decide),fun _ r t u fr bt bu hr' => ?_⟩
      obtain ⟨et,eu⟩ := frac_unique (by decide) fr (frac_self ⟨Int.le_refl 1,Int.gcd_one⟩)
      subst et eu
      obtain ⟨H1,e1,s1,f1⟩ := grow (o := .tup [.int (a / b + 1),.int 1]) hr'
      rw [e1]
      exact ⟨_,rfl,r,hi,a / b + 1,1,c,d,rfl,f1,s1 _ _ ehi,⟨bits_le bf (by decide),b1,bits_le sc.ba (by decide),bits_le sc.bb (by decide)⟩,_,rfl,k H1 s1⟩
    obtain ⟨u,hu,rd⟩ := R
    refine ⟨_,(pss_cons (ps_set (i := 2) S_share_a_stretch.nd rfl (Or.inl rfl) (pv 0)) (pss_cons (ps_set (i := 3) S_share_a_stretch.nd rfl (Or.inl rfl) (pv 1)) (pss_cons (ps_if (pt_val (pe_fn F_less (hr.mono (by decide)) (by rfl) (pa_cons (pv 1) (pa_cons (pv 0) pa_nil)))) (pss_cons (ps_set (i := 2) S_share_a_stretch.nd rfl (Or.inl rfl) (pv 1)) (pss_one (ps_set (i := 3) S_share_a_stretch.nd rfl (Or.inl rfl) (pv 0)))) pss_nil) hu))),?_⟩
    refine ⟨_,rfl,_,rfl,?_⟩
    refine ⟨_,rfl,_,rfl,q,p,c,d,a,b,rfl,eq,ep,⟨bits_le sc.ba (by decide),bits_le sc.bb (by decide),bits_le sa.ba (by decide),bits_le sa.bb (by decide)⟩,_,rfl,ite3 (fun hc => ?_) (fun hc => ?_)⟩
    · have h : c * b < a * d := by simpa using hc
      refine ⟨_,rfl,_,rfl,rd _ _ q p c d a b eq ep sc sa fun H' s' => ?_⟩
      have z := k H' s'
      unfold shareB at z
      rw [if_pos h] at z
      exact z
    · have h : ¬ c * b < a * d := by simpa using hc
      refine rd _ _ p q a b c d ep eq sa sc fun H' s' => ?_
      have z := k H' s'
      unfold shareB at z
      rw [if_neg h] at z
      exact z
theorem S_law_cell_at : FnScope ["script","k"] ["script","k"] (defScope (top 92)) := ⟨rfl,rfl,rfl,by decide +kernel,rfl,by decide +kernel,by decide +kernel⟩
theorem fn_law_cell_at (D_law_cell_at : Df K mg "_law_cell_at" (top 92)) (T : Txt mg) : Fn P w K mg base "_law_cell_at" ["script","k"] 1 (Dr.spCell K) := by
  refine D_law_cell_at.fn S_law_cell_at (fun _ _ _ _ _ _ us hl => by obtain ⟨_,_,rfl⟩ := len2 hl; rfl) (fun vs H Q E h => ?_) (fun f cdv A outer s H vs Q E hr h => ?_)
  · obtain ⟨sa,ss,k,rfl,_⟩ := h
    rfl
  · obtain ⟨sa,ss,k,rfl,hS,hk,q⟩ := h
    refine ⟨_,(pss_cons (ps_if (pt_cmpR op_lt (pv 1) (pe_callB call_len_seq (by rfl) T.z_len bt_len (pa_cons (pv 0) pa_nil)) (nomark _)) (pss_one (ps_ret (pe_ix ix_list (pv 0) (pv 1) (fun _ _ => rfl)))) pss_nil) (pss_one (ps_ret pe_int))),?_⟩
    refine ⟨_,rfl,_,rfl,sa,_,rfl,.inl hS,_,_,rfl,rfl,_,rfl,ite3 (fun h1 => ?_) (fun h1 => ?_)⟩
    · have h1 : k < (((ss.map V.int).length : Nat) : Int) := dec_t h1
      rw [List.length_map] at h1
      exact ⟨_,rfl,_,rfl,sa,_,_,_,rfl,rfl,hS,at_int k.toNat (by omega) (by omega),q _⟩
    · exact q _
theorem S_law_begun : FnScope ["cell","rest"] ["cell"] (defScope (top 94)) := ⟨rfl,rfl,rfl,by decide +kernel,rfl,by decide +kernel,by decide +kernel⟩
theorem fn_law_begun (D_law_begun : Df K mg "_law_begun" (top 94)) (T : Txt mg) : Fn P w K mg base "_law_begun" ["cell"] 1 Dr.spBegun := by
  refine D_law_begun.fn S_law_begun (fun _ _ _ _ _ _ us hl => by obtain ⟨_,rfl⟩ := len1 hl; rfl) (fun vs H Q E h => ?_) (fun f cdv A outer s H vs Q E hr h => ?_)
  · obtain ⟨c,rfl,_⟩ := h
    rfl
  · obtain ⟨c,rfl,q⟩ := h
    refine ⟨_,(pss_cons (ps_set (i := 1) S_law_begun.nd rfl (Or.inl rfl) pe_int) (pss_cons (ps_if (pt_cmpR op_ge (pe_callB call_abs (by rfl) T.z_abs bt_abs (pa_cons (pv 0) pa_nil)) (pe_op op_pow pe_int pe_int) (nomark _)) (pss_one (ps_set (i := 1) S_law_begun.nd rfl (Or.inl rfl) (pe_op op_add (pe_op op_sub (pe_callB call_abs (by rfl) T.z_abs bt_abs (pa_cons (pv 0) pa_nil)) (pe_op op_pow pe_int pe_int)) pe_int))) pss_nil) (pss_one (ps_ret (pe_lstA (pa_cons (pv 1) (pa_cons pe_int (pa_cons (pe_op op_mod (pv 0) pe_int) pa_nil)))))))),?_⟩
    refine ⟨_,rfl,_,rfl,_,_,rfl,rfl,⟨by decide,by decide,by decide⟩,_,_,rfl,rfl,_,rfl,ite3 (fun h1 => ?_) (fun h1 => ?_)⟩
    · refine ⟨_,rfl,_,rfl,_,_,rfl,rfl,⟨by decide,by decide,by decide⟩,_,_,rfl,rfl,_,_,rfl,rfl,?_⟩
      refine ⟨_,rfl,_,rfl,_,_,rfl,rfl,(by show (0 : Int) < 2147483647; decide),sz (by simp),fun p H2 s2 f2 n2 => ?_⟩
      exact q p H2 s2 n2 ⟨_,_,_,f2,Int.le_refl 0,Int.le_refl 0,Int.emod_nonneg _ (by decide),Int.emod_lt_of_pos _ (by decide)⟩
    · refine ⟨_,rfl,_,rfl,_,_,rfl,rfl,(by show (0 : Int) < 2147483647; decide),sz (by simp),fun p H2 s2 f2 n2 => ?_⟩
      exact q p H2 s2 n2 ⟨_,_,_,f2,Int.le_refl 0,Int.le_refl 0,Int.emod_nonneg _ (by decide),Int.emod_lt_of_pos _ (by decide)⟩
theorem S_law_take : FnScope ["pot","size","digit","mixed"] ["pot","size"] (defScope (top 95)) := ⟨rfl,rfl,rfl,by decide +kernel,rfl,by decide +kernel,by decide +kernel⟩
theorem fn_law_take (D_law_take : Df K mg "_law_take" (top 95)) : Fn P w K mg base "_law_take" ["pot","size"] 1 Dr.spTk := by
  refine D_law_take.fn S_law_take (fun _ _ _ _ _ _ us hl => by obtain ⟨_,_,rfl⟩ := len2 hl; rfl) (fun vs H Q E h => ?_) (fun f cdv A outer s H vs Q E hr h => ?_)
  · obtain ⟨p,m,k,rfl,_⟩ := h
    rfl
  · obtain ⟨p,m,k,rfl,⟨a,b,c,e,hb0,hb1,hc0,hc1⟩,hk,⟨hm,bm⟩,q⟩ := h
    refine ⟨_,(pss_cons (ps_if (pt_cmpR op_gt (pe_ix ix_list (pv 0) pe_int (fun _ _ => rfl)) pe_int (nomark _)) (pss_cons (ps_set (i := 2) S_law_take.nd rfl (Or.inl rfl) (pe_op op_mod (pe_ix ix_list (pv 0) pe_int (fun _ _ => rfl)) (pv 1))) (pss_cons (ps_asg (pe_op op_fdivP (pe_ix ix_list (pv 0) pe_int (fun _ _ => rfl)) (pv 1)) (pg_sub (pv 0) pe_int set_listA)) (pss_one (ps_ret (pv 2))))) pss_nil) (pss_cons (ps_asg (pe_op op_add (pe_ix ix_list (pv 0) pe_int (fun _ _ => rfl)) pe_int) (pg_sub (pv 0) pe_int set_listA)) (pss_cons (ps_set (i := 3) S_law_take.nd rfl (Or.inl rfl) (pe_op op_mod (pe_op op_add (pe_op op_add (pe_op op_add (pe_ix ix_list (pv 0) pe_int (fun _ _ => rfl)) (pe_op op_mulX (pe_op op_mulX pe_int (pe_ix ix_list (pv 0) pe_int (fun _ _ => rfl))) (pe_ix ix_list (pv 0) pe_int (fun _ _ => rfl)))) (pe_op op_mulX pe_int (pe_ix ix_list (pv 0) pe_int (fun _ _ => rfl)))) pe_int) pe_int)) (pss_cons (ps_set (i := 3) S_law_take.nd rfl (Or.inl rfl) (pe_op op_mod (pe_op op_mulX (pe_op op_mod (pe_op op_mulX (pv 3) (pv 3)) pe_int) pe_int) pe_int)) (pss_one (ps_ret (pe_op op_mod (pe_op op_fdivP (pv 3) pe_int) (pv 1)))))))),?_⟩
    refine ⟨_,rfl,p,_,_,_,rfl,rfl,SqL.of e,rfl,_,_,rfl,rfl,_,rfl,ite3 (fun h1 => ?_) (fun h1 => ?_)⟩
    · refine ⟨_,rfl,p,_,_,_,rfl,rfl,SqL.of e,rfl,_,rfl,_,_,rfl,rfl,hm,?_⟩
      refine ⟨_,rfl,p,_,_,_,rfl,rfl,SqL.of e,rfl,_,rfl,_,_,rfl,rfl,⟨hm,bm⟩,_,rfl,p,_,_,0,rfl,rfl,e,rfl,fun H2 u => ?_⟩
      exact ⟨_,rfl,q _ _ (Int.emod_nonneg _ (by omega)) (Int.emod_lt_of_pos _ hm) (fun b o nb e => u.at nb e) ⟨_,_,_,u.now,hb0,by omega,hc0,hc1⟩⟩
    · have e64 : (2 : Int) ^ 64 = 18446744073709551616 := by decide
      refine ⟨_,rfl,p,_,_,_,rfl,rfl,SqL.of e,rfl,_,_,rfl,rfl,_,rfl,p,_,_,1,rfl,rfl,e,rfl,fun H2 u => ?_⟩
      have e2 : H2 p = some (.lst [.int a,.int (b + 1),.int c]) := u.now
      refine ⟨_,rfl,p,_,_,_,rfl,rfl,SqL.of e2,rfl,_,rfl,p,_,_,_,rfl,rfl,SqL.of e2,rfl,_,_,rfl,rfl,CM.l ⟨by decide,by decide⟩,_,rfl,p,_,_,_,rfl,rfl,SqL.of e2,rfl,_,_,rfl,rfl,CM.l (by rw [e64]; omega),_,_,rfl,rfl,_,rfl,p,_,_,_,rfl,rfl,SqL.of e2,rfl,_,_,rfl,rfl,CM.l ⟨by decide,by decide⟩,_,_,rfl,rfl,_,_,rfl,rfl,_,_,rfl,rfl,(by show (0 : Int) < 2147483647; decide),?_⟩
      have r0 := Int.emod_nonneg (c + 977 * (b + 1) * (b + 1) + 40693 * (b + 1) + 1) (show (2147483647 : Int) ≠ 0 by decide)
      have r1 := Int.emod_lt_of_pos (c + 977 * (b + 1) * (b + 1) + 40693 * (b + 1) + 1) (show (0 : Int) < 2147483647 by decide)
      refine ⟨_,rfl,_,rfl,_,_,rfl,rfl,CM.l (by rw [e64]; omega),_,_,rfl,rfl,(by show (0 : Int) < 1000000007; decide),_,_,rfl,rfl,CM.r ⟨by decide,by decide⟩,_,_,rfl,rfl,(by show (0 : Int) < 998244353; decide),?_⟩
      refine ⟨_,rfl,_,_,rfl,rfl,⟨by decide,by decide⟩,_,rfl,_,_,rfl,rfl,hm,?_⟩
      exact q _ _ (Int.emod_nonneg _ (by omega)) (Int.emod_lt_of_pos _ hm) (fun b o nb e => u.at nb e) ⟨_,_,_,u.now,by omega,by omega,hc0,hc1⟩
theorem S_law_wide : FnScope ["pot","size","number","turn"] ["pot","size"] (defScope (top 96)) := ⟨rfl,rfl,rfl,by decide +kernel,rfl,by decide +kernel,by decide +kernel⟩
theorem fn_law_wide (D_law_wide : Df K mg "_law_wide" (top 96)) (F_law_take : Fn P w K mg base "_law_take" ["pot","size"] 1 Dr.spTk) (T : Txt mg) : Fn P w K mg base "_law_wide" ["pot","size"] 2 Dr.spWd := by
  refine D_law_wide.fn S_law_wide (fun _ _ _ _ _ _ us hl => by obtain ⟨_,_,rfl⟩ := len2 hl; rfl) (fun vs H Q E h => ?_) (fun f cdv A outer s H vs Q E hr h => ?_)
  · obtain ⟨p,m,k,rfl,_⟩ := h
    rfl
  · obtain ⟨p,m,k,rfl,pt,hk,⟨hm,bm⟩,q⟩ := h
    refine ⟨_,(pss_cons (ps_if (pw_or (pt_cmpR op_gt (pe_ix ix_list (pv 0) pe_int (fun _ _ => rfl)) pe_int (nomark _)) (pw_or1 (pt_cmpR op_lt (pv 1) (pe_op op_pow pe_int pe_int) (nomark _)))).pt (pss_one (ps_ret (pe_fn F_law_take (hr.mono (by decide)) (by rfl) (pa_cons (pv 0) (pa_cons (pv 1) pa_nil))))) pss_nil) (pss_cons (ps_set (i := 2) S_law_wide.nd rfl (Or.inl rfl) pe_int) (pss_cons (ps_for PassesOwn.never rfl (pi_range1 rfl T.z_range (pa_cons pe_int pa_nil)) (pg_name (i := 3) S_law_wide.nd rfl (Or.inl rfl)) (pss_one (ps_set (i := 2) S_law_wide.nd rfl (Or.inl rfl) (pe_op op_add (pe_op op_mulX (pv 2) pe_int) (pe_fn F_law_take (hr.mono (by decide)) (by rfl) (pa_cons (pv 0) (pa_cons pe_int pa_nil))))))) (pss_one (ps_ret (pe_op op_mod (pv 2) (pv 1))))))),?_⟩
    obtain ⟨a,b,c,e,rest⟩ := id pt
    have tk : ∀ H1,H1 = H → spTk [.ref p,.int m] H1 Q E0 := fun H1 e1 => by
      subst e1
      exact ⟨p,m,k,rfl,pt,by omega,⟨hm,bm⟩,fun r H2 h0 h1 b2 p2 => q r H2 h0 h1 b2 (p2.mono (by omega))⟩
    refine ⟨_,rfl,p,_,_,_,rfl,rfl,SqL.of e,rfl,_,_,rfl,rfl,_,rfl,ite3 (fun h1 => ?_) (fun h1 => ?_)⟩
    · exact ⟨_,rfl,_,rfl,tk _ rfl⟩
    refine ⟨_,rfl,_,_,rfl,rfl,⟨by decide,by decide,by decide⟩,_,_,rfl,rfl,_,rfl,ite3 (fun h2 => ?_) (fun h2 => ?_)⟩
    · exact ⟨_,rfl,_,rfl,tk _ rfl⟩
    refine ⟨4,rfl,by decide,by decide,for_range (n := 4) (lo := 0) (fun i σ H2 => ∃ (n : Int) (z : Option V),σ = [some (.ref p),some (.int m),some (.int n),z] ∧ But p H H2 ∧ Pot H2 p (k + (i : Int))) ⟨_,_,rfl,But.refl,by simpa using pt⟩ ?_ ?_⟩
    · rintro i σ H2 hi ⟨n,z,rfl,b2,p2⟩
      refine ⟨_,rfl,_,_,rfl,rfl,CM.r ⟨by decide,by decide⟩,_,rfl,p,_,_,rfl,p2,by omega,⟨by decide,by decide⟩,fun r H3 h0 h1 b3 p3 => ⟨_,_,rfl,rfl,_,_,rfl,b2.trans b3,p3.mono (by omega)⟩⟩
    · rintro σ H2 ⟨n,z,rfl,b2,p2⟩
      exact ⟨_,rfl,_,rfl,_,_,rfl,rfl,hm,q _ _ (Int.emod_nonneg _ (by omega)) (Int.emod_lt_of_pos _ hm) b2 p2⟩
theorem S_law_drawn_line : FnScope ["pot","many","span","half","line","k","at"] ["pot"] (defScope (top 97)) := ⟨rfl,rfl,rfl,by decide +kernel,rfl,by decide +kernel,by decide +kernel⟩
theorem fn_law_drawn_line (D_law_drawn_line : Df K mg "_law_drawn_line" (top 97)) (F_law_take : Fn P w K mg base "_law_take" ["pot","size"] 1 Dr.spTk) (F_law_wide : Fn P w K mg base "_law_wide" ["pot","size"] 2 Dr.spWd) (T : Txt mg) : Fn P w K mg base "_law_drawn_line" ["pot"] 3 Dr.spDLine := by
  refine D_law_drawn_line.fn S_law_drawn_line (fun _ _ _ _ _ _ us hl => by obtain ⟨_,rfl⟩ := len1 hl; rfl) (fun vs H Q E h => ?_) (fun f cdv A outer s H vs Q E hr h => ?_)
  · obtain ⟨p,k,rfl,_⟩ := h
    rfl
  · obtain ⟨p,k,rfl,pt,hk,q⟩ := h
    have CN : CompN (cxOf CX0 P w K mg base ["pot","many","span","half","line","k","at"] "_law_drawn_line" (defScope (top 97)) f cdv A outer s H E).nox (setScope (ifBody ((defBody (top 97)).getD 5 (.Pass ⟨0,0,0,0⟩)))) [] "corner" [] :=
      ⟨by rfl,rfl,by decide +kernel,by decide +kernel,rfl,(fun p hp => nomatch hp),by rfl,by decide +kernel,(fun p hp => nomatch hp),⟨rfl,rfl⟩,rfl⟩
    have R : ∃ u,PSs (cxOf CX0 P w K mg base ["pot","many","span","half","line","k","at"] "_law_drawn_line" (defScope (top 97)) f cdv A outer s H E).nox ((defBody (top 97)).drop 6) u ∧ ∀ (l : Addr) (qs : Crn) (H1 : Hp) (S F : Int) (z5 z6 : Option V),LineM H1 l qs → 1 ≤ qs.length → qs.length ≤ 10 → H l = none → l ≠ p → But p H H1 → Pot H1 p (k + 90) →
        u { nx := fun _ H' => Q .non H',rt := Q } [some (.ref p),some (.int (qs.length : Int)),some (.int S),some (.int F),some (.ref l),z5,z6] H1 := by
      refine ⟨_,(pss_cons (ps_if (pw_and (pt_cmpR op_gt (pv 1) pe_int (nomark _)) (pw_and1 (pt_cmpR op_eq (pe_fn F_law_take (hr.mono (by decide)) (by rfl) (pa_cons (pv 0) (pa_cons pe_int pa_nil))) pe_int (nomark _)))).pt (pss_cons (ps_set (i := 6) S_law_drawn_line.nd rfl (Or.inl rfl) (pe_op op_add pe_int (pe_fn F_law_take (hr.mono (by decide)) (by rfl) (pa_cons (pv 0) (pa_cons (pe_op op_sub (pv 1) pe_int) pa_nil))))) (pss_one (ps_asg (pe_ix ix_list (pv 4) (pe_op op_sub (pv 6) pe_int) (fun _ _ => rfl)) (pg_sub (pv 4) (pv 6) set_listA)))) pss_nil) (pss_one (ps_ret (pv 4)))),fun l qs H1 S F z5 z6 L1 h1 h10 nl np b1 p1 => ?_⟩
      have hll : (qs.map fun (q : Addr × Int × Int) => V.ref q.1).length = qs.length := List.length_map _
      have fin : ∀ {z5 z6 : Option V} {H2 : Hp},LineM H2 l qs → But p H H2 → Pot H2 p (k + 95) → (tRet (tVar 4)) { nx := fun _ H' => Q .non H',rt := Q } [some (.ref p),some (.int (qs.length : Int)),some (.int S),some (.int F),some (.ref l),z5,z6] H2 := fun L2 b2 p2 => ⟨_,rfl,q l qs _ L2 h1 h10 nl b2 (p2.mono (by omega))⟩
      refine ⟨_,rfl,_,_,rfl,rfl,_,rfl,ite3 (fun g1 => ?_) (fun g1 => ?_)⟩
      · have g1 : 1 < (qs.length : Int) := dec_t g1
        refine ⟨_,rfl,p,_,_,rfl,p1,by omega,⟨by decide,by decide⟩,fun r2 H2 _ _ b2 p2 => ?_⟩
        have L2' := L1.but b2 p1 np
        refine ⟨rfl,_,rfl,ite3 (fun g2 => ?_) (fun g2 => ?_)⟩
        · refine ⟨_,rfl,_,rfl,_,_,rfl,rfl,p,_,_,rfl,p2,by omega,⟨by omega,bits_le (bits_small (by omega) (by omega)) (by decide)⟩,fun r3 H3 a3 b3' b3 p3 => ⟨_,_,rfl,rfl,?_⟩⟩
          have L3 := L2'.but b3 p2 np
          obtain ⟨qa,hqa,eqa⟩ := at_crn (qs := qs) (k := 1 + r3 - 1) (by omega) (by omega)
          refine ⟨_,rfl,_,rfl,_,_,rfl,rfl,l,_,_,_,rfl,rfl,SqL.of L3.lst,eqa,_,rfl,_,rfl,l,_,_,_,rfl,rfl,L3.lst,ixN_of (by omega) (by rw [hll]; omega),fun H4 u => ?_⟩
          have e4 : (qs.map fun (q : Addr × Int × Int) => V.ref q.1).set (1 + r3).toNat (.ref qa.1) = (qs.set (1 + r3).toNat qa).map fun (q : Addr × Int × Int) => V.ref q.1 := by rw [List.map_set]
          have L4 : LineM H4 l (qs.set (1 + r3).toNat qa) := by
            refine ⟨by rw [← e4]; exact u.now,fun q hq => ?_⟩
            rcases List.mem_or_eq_of_mem_set hq with hq | rfl
            · exact ⟨u.t _ _ (L3.crn q hq).1,(L3.crn q hq).2⟩
            · have m := List.mem_of_getElem? hqa
              exact ⟨u.t _ _ (L3.crn _ m).1,(L3.crn _ m).2⟩
          have b4 : But p H H4 := fun b o nb e => u.at (fun z => by subst z; rw [nl] at e; cases e) (b3 b o nb (b2 b o nb (b1 b o nb e)))
          obtain ⟨x,y,z,ep,rest⟩ := p3
          have p4 : Pot H4 p (k + 90 + 1 + 1) := ⟨x,y,z,u.at (Ne.symm np) ep,rest⟩
          exact ⟨_,rfl,q l _ _ L4 (by rw [List.length_set]; exact h1) (by rw [List.length_set]; exact h10) nl b4 (p4.mono (by omega))⟩
        · exact fin L2' (b1.trans b2) (p2.mono (by omega))
      · exact fin L1 b1 (p1.mono (by omega))
    obtain ⟨u,hu,ru⟩ := R
    refine ⟨_,(pss_cons (ps_set (i := 1) S_law_drawn_line.nd rfl (Or.inl rfl) (pe_op op_add pe_int (pe_fn F_law_take (hr.mono (by decide)) (by rfl) (pa_cons (pv 0) (pa_cons (pe_ix ix_list (@pe_lstA _ _ _ _ (@pa_cons _ _ _ _ _ pe_int (@pa_cons _ _ _ _ _ pe_int (@pa_cons _ _ _ _ _ pe_int (@pa_cons _ _ _ _ _ pe_int (@pa_cons _ _ _ _ _ pe_int (@pa_cons _ _ _ _ _ pe_int (@pa_cons _ _ _ _ _ pe_int (@pa_cons _ _ _ _ _ pe_int pa_nil (by rfl)) (by rfl)) (by rfl)) (by rfl)) (by rfl)) (by rfl)) (by rfl)) (by rfl))) (pe_fn F_law_take (hr.mono (by decide)) (by rfl) (pa_cons (pv 0) (pa_cons pe_int pa_nil))) (fun _ _ => rfl)) pa_nil))))) (pss_cons (ps_set (i := 2) S_law_drawn_line.nd rfl (Or.inl rfl) (pe_ix ix_list (pe_lstA (pa_cons pe_int (pa_cons pe_int (pa_cons pe_int (pa_cons (pe_op op_sub (pe_op op_mulX pe_int (pe_op op_pow pe_int pe_int)) pe_int) pa_nil))))) (pe_fn F_law_take (hr.mono (by decide)) (by rfl) (pa_cons (pv 0) (pa_cons pe_int pa_nil))) (fun _ _ => rfl))) (pss_cons (ps_set (i := 3) S_law_drawn_line.nd rfl (Or.inl rfl) (pe_op op_fdivP (pv 2) pe_int)) (pss_cons (ps_set (i := 4) S_law_drawn_line.nd rfl (Or.inl rfl) (pe_lstA pa_nil)) (pss_cons (ps_for PassesOwn.never rfl (pi_range1 rfl T.z_range (pa_cons (pv 1) pa_nil)) (pg_name (i := 5) S_law_drawn_line.nd rfl (Or.inl rfl)) (pss_one (ps_expr (pe_bm PySem.F.plainAttrs_list PySem.F.slot_list_append PySem.F.type_list_append mt_appendA (pv 4) (pa_cons (pe_tupA (pa_cons (pe_op op_sub (pe_fn F_law_wide (hr.mono (by decide)) (by rfl) (pa_cons (pv 0) (pa_cons (pv 2) pa_nil))) (pv 3)) (pa_cons (pe_op op_sub (pe_fn F_law_wide (hr.mono (by decide)) (by rfl) (pa_cons (pv 0) (pa_cons (pv 2) pa_nil))) (pv 3)) pa_nil))) pa_nil))))) (pss_cons (ps_if (pt_cmpR op_eq (pe_fn F_law_take (hr.mono (by decide)) (by rfl) (pa_cons (pv 0) (pa_cons pe_int pa_nil))) pe_int (nomark _)) (pss_one (ps_setCompA (j := 4) rfl CN S_law_drawn_line.nd rfl rfl (pi_list (pv 4)) (fun fp s₀ H₀ => (pe_tupA (pa_cons (pe_ix (ix_tupK (K := K) rfl) (pv 0) pe_int (fun _ _ => rfl)) (pa_cons pe_int pa_nil)))))) pss_nil) hu)))))),?_⟩
    refine ⟨_,rfl,sz (by simp),fun pl H1 s1 f1 n1 => ?_⟩
    have np1 := Pot.ne pt n1
    have p1 := pt.same s1
    refine ⟨_,rfl,p,_,_,rfl,p1,by omega,⟨by decide,by decide⟩,fun r2 H2 a2 b2' b2 p2 => ?_⟩
    refine menuI (fun m => 2 ≤ m ∧ m ≤ 10) (b2 _ _ np1 f1) a2 (by simpa using b2') (fun v hv => ?_) fun m hm => ?_
    · simp only [List.mem_cons,List.not_mem_nil,or_false] at hv
      rcases hv with rfl | rfl | rfl | rfl | rfl | rfl | rfl | rfl <;> exact ⟨_,rfl,by decide,by decide⟩
    refine ⟨p,_,_,rfl,p2,by omega,⟨by omega,bits_le (bits_small (by omega) (by omega)) (by decide)⟩,fun r3 H3 a3 b3' b3 p3 => ⟨_,_,rfl,rfl,?_⟩⟩
    have B3 : But p H H3 := (But.of s1).trans (b2.trans b3)
    refine ⟨_,_,rfl,rfl,⟨by decide,by decide,by decide⟩,_,_,rfl,rfl,CM.l ⟨by decide,by decide⟩,_,_,rfl,rfl,sz (by simp),fun ps H4 s4 f4 n4 => ?_⟩
    have np4 := Pot.ne p3 n4
    have p4 := p3.same s4
    have e12 : (2 * (10 : Int) ^ (12 : Int).toNat - 1) = 1999999999999 := by decide +kernel
    refine ⟨_,rfl,p,_,_,rfl,p4,by omega,⟨by decide,by decide⟩,fun r5 H5 a5 b5' b5 p5 => ?_⟩
    refine menuI (fun m => 3 ≤ m ∧ m ≤ 1999999999999) (b5 _ _ np4 f4) a5 (by simpa using b5') (fun v hv => ?_) fun S hS => ?_
    · simp only [List.mem_cons,List.not_mem_nil,or_false] at hv
      rcases hv with rfl | rfl | rfl | rfl
      · exact ⟨_,rfl,by decide,by decide⟩
      · exact ⟨_,rfl,by decide,by decide⟩
      · exact ⟨_,rfl,by decide,by decide⟩
      · exact ⟨_,rfl,by rw [e12]; decide,by rw [e12]; decide⟩
    have B5 : But p H H5 := (B3.trans (But.of s4)).trans b5
    have bS : bits S ≤ 8000 := bits_le (m := 50) (bits_of (by show _ < 1125899906842624; omega)) (by decide)
    refine ⟨_,rfl,_,_,rfl,rfl,⟨by decide,by decide⟩,?_⟩
    refine ⟨sz (by simp),fun l H6 s6 f6 n6 => ?_⟩
    have npl := Pot.ne p5 n6
    have nl : H l = none := B5.none npl n6
    have p6 := p5.same s6
    refine ⟨_,rfl,_,rfl,by omega,by omega,?_⟩
    refine for_range (n := (1 + r3).toNat) (lo := 0) (fun i σ H7 => ∃ (z5 z6 : Option V) (qs : Crn),σ = [some (.ref p),some (.int (1 + r3)),some (.int S),some (.int (S / 2)),some (.ref l),z5,z6] ∧ qs.length = i ∧ LineM H7 l qs ∧ But p H H7 ∧ Pot H7 p (k + 3 + 8 * (i : Int)))
      ⟨_,_,[],rfl,rfl,⟨f6,fun q h => nomatch h⟩,B5.trans (But.of s6),p6.mono (by omega)⟩ ?_ ?_
    · rintro i σ H7 hi ⟨z5,z6,qs,rfl,hl,L7,b7,p7⟩
      have hi10 : i < 10 := by omega
      refine ⟨_,rfl,.inl ⟨rfl,_,SqL.of L7.lst⟩,?_⟩
      refine ⟨_,rfl,_,rfl,p,_,_,rfl,p7,by omega,⟨by omega,bS⟩,fun r8 H8 a8 b8' b8 p8 => ⟨_,rfl,_,_,rfl,rfl,?_⟩⟩
      refine ⟨_,rfl,_,rfl,p,_,_,rfl,p8,by omega,⟨by omega,bS⟩,fun r9 H9 a9 b9' b9 p9 => ⟨_,rfl,_,_,rfl,rfl,sz (by simp),fun pp H10 s10 f10 n10 => ?_⟩⟩
      have L10 := ((L7.but b8 p7 npl).but b9 p8 npl).mono s10
      refine ⟨l,_,_,rfl,rfl,L10.lst,small1000 (by rw [List.length_map]; omega),fun H11 u => ⟨_,_,qs ++ [(pp,r8 - S / 2,r9 - S / 2)],rfl,by simp [hl],⟨by rw [u.now]; simp,fun q hq => ?_⟩,fun b o nb e => ?_,?_⟩⟩
      · rcases List.mem_append.mp hq with hq | hq
        · exact ⟨u.t _ _ (L10.crn q hq).1,(L10.crn q hq).2⟩
        · rw [List.mem_singleton.mp hq]
          refine ⟨u.t _ _ f10,?_,?_⟩ <;> (show -999999999999 ≤ _ ∧ _ ≤ 999999999999; dsimp only; omega)
      · exact u.at (fun z => by subst z; rw [nl] at e; cases e) (s10 _ _ (b9 b o nb (b8 b o nb (b7 b o nb e))))
      · obtain ⟨x,y,z,ep,rest⟩ := (p9.same s10).mono (k' := k + 3 + 8 * ((i + 1 : Nat) : Int)) (by omega)
        exact ⟨x,y,z,u.at (Ne.symm npl) ep,rest⟩
    · rintro σ H7 ⟨z5,z6,qs,rfl,hl,L7,b7,p7⟩
      have hmany : (qs.length : Int) = 1 + r3 := by omega
      refine ⟨_,rfl,p,_,_,rfl,p7,by omega,⟨by decide,by decide⟩,fun r8 H8 _ _ b8 p8 => ?_⟩
      have L8 := L7.but b8 p7 npl
      rw [← hmany]
      refine ⟨rfl,_,rfl,ite3 (fun g1 => ?_) (fun g1 => ?_)⟩
      · refine ⟨_,rfl,l,rfl,⟨_,SqL.of L8.lst⟩,comp_R (SqL.of L8.lst) (by rw [List.length_map]; omega) (fun _ v H => ∃ p x,v = .ref p ∧ H p = some (.tup [.int x,.int 0]) ∧ Sm x) (fun i v H H' st ⟨p,x,e,c,s⟩ => ⟨p,x,e,st _ _ c,s⟩) ?_ ?_⟩
        · intro i x H9 Kc hx s9 kk
          rw [List.getElem?_map] at hx
          obtain ⟨q,hq,rfl⟩ := Option.map_eq_some_iff.mp hx
          have c := s9 _ _ (L8.crn q (List.mem_of_getElem? hq)).1
          refine ⟨_,rfl,q.1,_,_,_,rfl,rfl,SqT.of c,rfl,sz (by simp),fun pp H10 s10 f10 n10 => kk _ _ s10 ⟨pp,_,rfl,f10,(L8.crn q (List.mem_of_getElem? hq)).2.1⟩⟩
        · intro l2 ys H9 nl2 s9 f9 hly hr
          rw [List.length_map] at hly
          have np2 := Pot.ne p8 nl2
          have ex : ∃ rs : Crn,rs.length = qs.length ∧ LineM H9 l2 rs := by
            have hch : ∀ ys : List V,(∀ y ∈ ys,∃ (p : Addr) (x : Int),y = .ref p ∧ H9 p = some (.tup [.int x,.int 0]) ∧ Sm x) → ∃ rs : Crn,ys = rs.map (fun q => V.ref q.1) ∧ ∀ q ∈ rs,H9 q.1 = some (.tup [.int q.2.1,.int q.2.2]) ∧ Sm q.2.1 ∧ Sm q.2.2 := by
              intro ys
              induction ys with
              | nil => exact fun _ => ⟨[],rfl,fun q h => nomatch h⟩
              | cons y ys ih =>
                intro h
                obtain ⟨rs,e,hrs⟩ := ih fun z hz => h z (List.mem_cons_of_mem _ hz)
                obtain ⟨pp,x,rfl,c,sx⟩ := h y List.mem_cons_self
                refine ⟨(pp,x,0) :: rs,by rw [e]; rfl,fun q hq => ?_⟩
                rcases List.mem_cons.mp hq with rfl | hq
                · exact ⟨c,sx,by show -999999999999 ≤ (0 : Int) ∧ (0 : Int) ≤ 999999999999; decide⟩
                · exact hrs q hq
            obtain ⟨rs,e,hrs⟩ := hch ys fun y hy => by
              obtain ⟨i,hi⟩ := List.getElem?_of_mem hy
              exact hr i y hi
            refine ⟨rs,?_,⟨by rw [f9,e],hrs⟩⟩
            rw [e,List.length_map] at hly
            exact hly
          obtain ⟨rs,hrl,L9⟩ := ex
          have := ru l2 rs H9 S (S / 2) z5 z6 L9 (by omega) (by omega) ((b7.trans b8).none np2 nl2) np2 ((b7.trans b8).trans (But.of s9)) ((p8.same s9).mono (by omega))
          rw [hrl] at this
          exact this
      · exact ru l qs H8 S (S / 2) z5 z6 L8 (by omega) (by omega) nl npl (b7.trans b8) (p8.mono (by omega))
theorem S_look_at_way : FnScope ["way"] ["way"] (defScope (top 45)) := ⟨rfl,rfl,rfl,by decide +kernel,rfl,by decide +kernel,by decide +kernel⟩
theorem fn_look_at_way {C pW : Addr} (D_look_at_way : Df K mg "look_at_way" (top 45)) (O_NoWay : ExcC K mg "NoWay" C) (G_WAYS : mg "WAYS" = some (.ref pW)) (hW : ∀ H,SqT K H pW [.str wOn,.str wPart,.str wFree,.str wHops]) (T : Txt mg) : Fx P w K mg base "look_at_way" ["way"] 1 [] (spWayS C) := by
  refine D_look_at_way.fx S_look_at_way (fun _ _ _ _ _ _ us hl => by obtain ⟨_,rfl⟩ := len1 hl; rfl) (fun vs H Q E h => ?_) (fun f cdv A outer s H vs Q E hr h => ?_)
  · obtain ⟨x,t,rfl,_⟩ := h
    rfl
  · obtain ⟨x,t,rfl,kn,h⟩ := h
    refine ⟨_,(pss_one (ps_if (pw_or (pt_not (pt_val (pe_callB call_isinst (by rfl) T.z_isinstance bt_isinstance (pa_cons (pv 0) (pa_cons (pe_ty T.z_str bt_str) pa_nil))))) (pw_or1 (pt_cmpR op_notIn_seq (pv 0) (pe_glob (v := .ref _) (by rfl) G_WAYS rfl) (by rfl)))).pt (pss_one (ps_raise O_NoWay (by rfl))) pss_nil)),?_⟩
    refine ⟨_,rfl,x,t,"str",rfl,kn,nice_str,_,rfl,?_⟩
    rcases h with ⟨w,rfl,hw,q⟩ | ⟨hn,hE⟩
    · cases kn
      refine iteFalse (by decide) ?_
      refine ⟨_,rfl,pW,_,rfl,.inr (hW _),rfl,rfl,_,rfl,iteFalse ?_ q⟩
      rcases hw with rfl | rfl | rfl | rfl <;> decide
    · cases hs : isSub t "str" with
      | false => exact iteT hE
      | true =>
        obtain ⟨w,rfl⟩ : ∃ w,x = .str w := by
          cases kn with
          | str w => exact ⟨w,rfl⟩
          | non => exact absurd hs (by decide)
          | bl b => exact absurd hs (by decide)
          | int i => exact absurd hs (by decide)
          | lst e => exact absurd hs (by decide)
          | tup e => exact absurd hs (by decide)
          | dict e => exact absurd hs (by decide)
        refine iteF ?_
        refine ⟨_,rfl,pW,_,rfl,.inr (hW _),rfl,rfl,_,rfl,iteTrue ?_ hE⟩
        have hn' := hn w rfl
        have e : inV (.str w) [.str wOn,.str wPart,.str wFree,.str wHops] = false := by
          rw [Bool.eq_false_iff]
          intro z
          apply hn'
          have z' : (wOn == w || (wPart == w || (wFree == w || (wHops == w || false)))) = true := z
          simp only [Bool.or_eq_true,beq_iff_eq,Bool.false_eq_true,or_false] at z'
          rcases z' with h | h | h | h
          · exact .inl h.symm
          · exact .inr (.inl h.symm)
          · exact .inr (.inr (.inl h.symm))
          · exact .inr (.inr (.inr h.symm))
        show (if true = true then !inV (.str w) _ else _) = true
        rw [e]
        rfl
theorem S_is_pair : FnScope ["one","other","thing"] ["one","other","thing"] (defScope (top 32)) := ⟨rfl,rfl,rfl,by decide +kernel,rfl,by decide +kernel,by decide +kernel⟩
theorem fn_is_pair (D_is_pair : Df K mg "is_pair" (top 32)) (F_is_place : Fn P w K mg base "is_place" ["line","thing"] 3 spIsPlace) (T : Txt mg) : Fn P w K mg base "is_pair" ["one","other","thing"] 4 spPair := by
  refine D_is_pair.fn S_is_pair (fun _ _ _ _ _ _ us hl => by obtain ⟨_,_,_,rfl⟩ := len3 hl; rfl) (fun vs H Q E h => ?_) (fun f cdv A outer s H vs Q E hr h => ?_)
  · obtain ⟨l1,l2,xs1,xs2,v,rfl,_⟩ := h
    rfl
  · obtain ⟨l1,l2,xs1,xs2,v,rfl,⟨e1,n1⟩,⟨e2,n2⟩,pt,q⟩ := h
    refine ⟨_,(pss_cons (ps_if (pw_or (pt_not (pt_val (pe_callB call_isinst (by rfl) T.z_isinstance bt_isinstance (pa_cons (pv 2) (pa_cons (pe_ty T.z_tuple bt_tuple) pa_nil))))) (pw_or1 (pt_cmpR op_ne (pe_callB call_len_seq (by rfl) T.z_len bt_len (pa_cons (pv 2) pa_nil)) pe_int (nomark _)))).pt (pss_one (ps_ret pe_bl)) pss_nil) (pss_one (ps_ret (pe_and (pe_fn F_is_place (hr.mono (by decide)) (by rfl) (pa_cons (pv 0) (pa_cons (pe_ix ix_tup (pv 2) pe_int (fun _ _ => rfl)) pa_nil))) (pe_one (pe_fn F_is_place (hr.mono (by decide)) (by rfl) (pa_cons (pv 1) (pa_cons (pe_ix ix_tup (pv 2) pe_int (fun _ _ => rfl)) pa_nil)))))))),?_⟩
    obtain ⟨t,kn⟩ := pt.kn
    refine ⟨_,rfl,v,t,"tuple",rfl,kn,nice_tuple,_,rfl,?_⟩
    rcases Kn.cases_tp' (n := (xs1.length : Int) - 1) (m := (xs2.length : Int) - 1) kn with ⟨p,xs,rfl,e,rfl⟩ | ⟨hv,hs⟩
    · refine iteFalse (by decide) ?_
      refine ⟨_,rfl,p,xs,rfl,.inr (SqT.of e),rfl,_,rfl,ite3 (fun hc => ?_) (fun hc => ?_)⟩
      · have hn : xs.length ≠ 2 := by
          intro z
          rw [z] at hc
          exact absurd hc (by decide)
        have z : pairV ((xs1.length : Int) - 1) ((xs2.length : Int) - 1) H (.ref p) = false := by
          unfold pairV
          simp only [e]
          split
          · rename_i h
            cases h
            exact absurd rfl hn
          · rfl
        rw [z] at q
        exact q
      · have hn : xs.length = 2 := by
          have z : (xs.length : Int) = 2 := by simpa using hc
          omega
        obtain ⟨x,y,rfl⟩ := len2 hn
        rw [pairV_tup e] at q
        have tx := (pt.parts p _ rfl e x (by simp)).1
        have ty := (pt.parts p _ rfl e y (by simp)).1
        refine ⟨_,rfl,_,rfl,p,_,_,_,rfl,rfl,SqT.of e,rfl,l1,_,_,rfl,e1,n1,tx,_,rfl,ite3 (fun h1 => ?_) (fun h1 => ?_)⟩
        · rw [h1,Bool.true_and] at q
          exact ⟨_,rfl,_,rfl,p,_,_,_,rfl,rfl,SqT.of e,rfl,l2,_,_,rfl,e2,n2,ty,q⟩
        · rw [h1,Bool.false_and] at q
          exact q
    · rw [hv] at q
      rw [hs]
      exact iteT q
theorem S_are_pairs : FnScope ["one","other","thing"] ["one","other","thing"] (defScope (top 33)) := ⟨rfl,rfl,rfl,by decide +kernel,rfl,by decide +kernel,by decide +kernel⟩
theorem fn_are_pairs (D_are_pairs : Df K mg "are_pairs" (top 33)) (F_is_pair : Fn P w K mg base "is_pair" ["one","other","thing"] 4 spPair) (T : Txt mg) : Fn P w K mg base "are_pairs" ["one","other","thing"] 5 spPairs := by
  refine D_are_pairs.fn S_are_pairs (fun _ _ _ _ _ _ us hl => by obtain ⟨_,_,_,rfl⟩ := len3 hl; rfl) (fun vs H Q E h => ?_) (fun f cdv A outer s H vs Q E hr h => ?_)
  · obtain ⟨l1,l2,xs1,xs2,v,rfl,_⟩ := h
    rfl
  · obtain ⟨l1,l2,xs1,xs2,v,rfl,⟨e1,n1⟩,⟨e2,n2⟩,pt,q⟩ := h
    have CN : CompN (cxOf CX0 P w K mg base ["one","other","thing"] "are_pairs" (defScope (top 33)) f cdv A outer s H E).nox (Dr.compScope (retExpr ((defBody (top 33)).getD 1 (.Pass ⟨0,0,0,0⟩)))) [("other",s.heap.objs.size + 2),("one",s.heap.objs.size + 1)] "pair" [("one",0),("other",1)] :=
      ⟨by rfl,rfl,by decide +kernel,by decide +kernel,rfl,(fun p hp => by simp only [List.mem_cons,List.not_mem_nil,or_false] at hp; rcases hp with rfl | rfl <;> rfl),by rfl,by decide +kernel,(fun p hp => by simp only [List.mem_cons,List.not_mem_nil,or_false] at hp; rcases hp with rfl | rfl <;> exact ⟨rfl,rfl,.inr (.inl rfl),rfl,rfl⟩),⟨rfl,rfl⟩,rfl⟩
    refine ⟨_,(pss_cons (ps_if (pw_or (pt_not (pt_val (pe_callB call_isinst (by rfl) T.z_isinstance bt_isinstance (pa_cons (pv 2) (pa_cons (pe_ty T.z_list bt_list) pa_nil))))) (pw_or1 (pt_cmpR op_eq (pe_callB call_len_seq (by rfl) T.z_len bt_len (pa_cons (pv 2) pa_nil)) pe_int (nomark _)))).pt (pss_one (ps_ret pe_bl)) pss_nil) (pss_one (ps_ret (pe_callB (call_all rfl) (by rfl) T.z_all bt_all (pa_cons (pe_compA rfl CN (pi_list (pv 2)) (fun fp s₀ H₀ => (pe_fn F_is_pair (hr.mono (by decide)) (by rfl) (pa_cons (pv 1) (pa_cons (pv 2) (pa_cons (pv 0) pa_nil)))))) pa_nil))))),?_⟩
    obtain ⟨t,kn⟩ := pt.kn
    refine ⟨_,rfl,v,t,"list",rfl,kn,nice_list,_,rfl,?_⟩
    rcases Kn.cases_lst' (n := (xs1.length : Int) - 1) (m := (xs2.length : Int) - 1) kn with ⟨p,xs,rfl,e,rfl⟩ | ⟨hv,hs⟩
    · refine iteFalse (by decide) ?_
      rw [pairsV_lst e] at q
      obtain ⟨hlen,hth⟩ := pt.parts p xs rfl e
      refine ⟨_,rfl,p,xs,rfl,.inl (SqL.of e),rfl,_,rfl,ite3 (fun hc => ?_) (fun hc => ?_)⟩
      · have hn : xs = [] := by
          have z : (xs.length : Int) = 0 := by simpa using hc
          exact List.length_eq_zero_iff.mp (by omega)
        subst hn
        exact q H (Same.refl _)
      · have hn : xs ≠ [] := fun z => by
          subst z
          exact absurd hc (by decide)
        have hne : xs.isEmpty = false := by cases xs with | nil => exact absurd rfl hn | cons x r => rfl
        rw [hne] at q
        refine ⟨_,rfl,p,rfl,⟨_,SqL.of e⟩,comp_R (SqL.of e) (by omega) (fun i v' _ => v' = .bl (pairV ((xs1.length : Int) - 1) ((xs2.length : Int) - 1) H (xs.getD i .non))) (fun _ _ _ _ _ h => h) ?_ ?_⟩
        · intro i x H2 Kc hx s2 kk
          have hm := List.mem_of_getElem? hx
          refine ⟨_,rfl,_,rfl,_,rfl,l1,l2,_,_,_,rfl,⟨s2 _ _ e1,n1⟩,⟨s2 _ _ e2,n2⟩,(hth x hm).mono s2,kk _ _ (Same.refl _) ?_⟩
          rw [pairV_same (hth x hm) s2,List.getD_eq_getElem?_getD,hx]
          rfl
        · intro l ys H2 nl s2 f2 hl hr
          have ey : ys = (xs.map (pairV ((xs1.length : Int) - 1) ((xs2.length : Int) - 1) H)).map V.bl := by
            refine List.ext_getElem? fun i => ?_
            by_cases hi : i < xs.length
            · have h1 : ys[i]? = some ys[i] := List.getElem?_eq_getElem (by omega)
              rw [h1,hr i _ h1,List.getElem?_map,List.getElem?_map,List.getElem?_eq_getElem hi,List.getD_eq_getElem?_getD,List.getElem?_eq_getElem hi]
              rfl
            · rw [List.getElem?_eq_none (by omega),List.getElem?_eq_none (by simp; omega)]
          rw [ey] at f2
          refine ⟨l,_,rfl,SqL.of f2,?_⟩
          have z := q H2 s2
          rw [List.all_map]
          exact z
    · rw [hs]
      have z := q H (Same.refl _)
      rw [hv] at z
      exact iteT z
theorem at_lastP (f : Pr) (r : List Pr) : atI (prs (f :: r)) (-1) = some (.ref ((f :: r).getLast (by simp)).p) := by
  have h : prs (f :: r) = prs ((f :: r).dropLast) ++ [V.ref ((f :: r).getLast (by simp)).p] := by
    unfold prs
    rw [← List.map_singleton (f := fun (q : Pr) => V.ref q.p),← List.map_append,List.dropLast_concat_getLast]
  rw [h]
  exact atI_last _ _
theorem two_is (a b n : Int) : decide ([a,b] = [n,1]) = isP a b n := by
  unfold isP
  rw [Bool.eq_iff_iff]
  simp
theorem steps_iff {w : Str} : ∀ {ps : List Pr},stepsB w ps = true ↔ ∀ (j : Nat) u v,ps[j]? = some u → ps[j + 1]? = some v → stepB w u v = true
  | [] => by simp [stepsB]
  | [u] => by simp [stepsB]
  | u :: v :: r => by
    unfold stepsB
    rw [Bool.and_eq_true,steps_iff (ps := v :: r)]
    constructor
    · rintro ⟨h1,h2⟩ j x y ex ey
      cases j with
      | zero => cases ex; cases ey; exact h1
      | succ j => exact h2 j x y (by simpa using ex) (by simpa using ey)
    · intro h
      exact ⟨h 0 u v rfl rfl,fun j x y ex ey => h (j + 1) x y (by simpa using ex) (by simpa using ey)⟩
theorem S_has_right_ends_walks : FnScope ["one","other","walk","way","first","last"] ["one","other","walk","way"] (defScope (top 78)) := ⟨rfl,rfl,rfl,by decide +kernel,rfl,by decide +kernel,by decide +kernel⟩
theorem fn_has_right_ends_walks (D_has_right_ends_walks : DfA K mg "has_right_ends_walks" "has_right_ends" (top 78)) (F_last_of : Fn P w K mg base "last_of" ["line"] 1 spLast) : Fn P w K mg base "has_right_ends_walks" ["one","other","walk","way"] 2 spEnds := by
  refine D_has_right_ends_walks.fn S_has_right_ends_walks (fun _ _ _ _ _ _ us hl => by obtain ⟨_,_,_,_,rfl⟩ := len4 hl; rfl) (fun vs H Q E h => ?_) (fun f cdv A outer s H vs Q E hr h => ?_)
  · obtain ⟨l1,l2,l,xs1,xs2,f,r,w,rfl,_⟩ := h
    rfl
  · obtain ⟨l1,l2,l,xs1,xs2,f,r,w,rfl,e1,e2,P,q⟩ := h
    refine ⟨_,(pss_cons (ps_set (i := 4) S_has_right_ends_walks.nd rfl (Or.inl rfl) (pe_ix ix_list (pv 2) pe_int (fun _ _ => rfl))) (pss_cons (ps_set (i := 5) S_has_right_ends_walks.nd rfl (Or.inl rfl) (pe_ix ix_list (pv 2) (pe_un un_neg pe_int) (fun _ _ => rfl))) (pss_cons (ps_if (pw_or (pt_cmpR (op_neI hr.units0) (pe_ix ix_tup (pv 4) pe_int (fun _ _ => rfl)) (pe_tupA (pa_cons pe_int (pa_cons pe_int pa_nil))) (nomark _)) (pw_or1 (pt_cmpR (op_neI hr.units0) (pe_ix ix_tup (pv 5) pe_int (fun _ _ => rfl)) (pe_tupA (pa_cons (pe_fn F_last_of (hr.mono (by decide)) (by rfl) (pa_cons (pv 0) pa_nil)) (pa_cons pe_int pa_nil))) (nomark _)))).pt (pss_one (ps_ret pe_bl)) pss_nil) (pss_cons (ps_if (pt_cmpR op_eq (pv 3) pe_str (nomark _)) (pss_one (ps_ret pe_bl)) pss_nil) (pss_one (ps_ret (pe_and (pe_cmpR (op_eqI hr.units0) (pe_ix ix_tup (pv 4) pe_int (fun _ _ => rfl)) (pe_tupA (pa_cons pe_int (pa_cons pe_int pa_nil))) (nomark _)) (pe_one (pe_cmpR (op_eqI hr.units0) (pe_ix ix_tup (pv 5) pe_int (fun _ _ => rfl)) (pe_tupA (pa_cons (pe_fn F_last_of (hr.mono (by decide)) (by rfl) (pa_cons (pv 1) pa_nil)) (pa_cons pe_int pa_nil))) (nomark _)))))))))),?_⟩
    have hf := P.pr f (by simp)
    have hl := P.pr _ (List.getLast_mem (l := f :: r) (by simp))
    refine ⟨_,rfl,l,_,_,_,rfl,rfl,SqL.of P.lst,at_head (V.ref f.p) (prs r),?_⟩
    refine ⟨_,rfl,_,rfl,l,_,_,_,rfl,rfl,SqL.of P.lst,at_lastP f r,?_⟩
    generalize (f :: r).getLast (by simp) = z at *
    unfold endsB at q
    refine ⟨_,rfl,f.p,_,_,_,rfl,rfl,SqT.of hf.p_,rfl,sz (by simp),fun t1 H1 s1 g1 _ => ?_⟩
    refine ⟨f.x,t1,[f.a,f.b],[0,1],rfl,rfl,SqT.of (s1 _ _ hf.x_),SqT.of g1,_,rfl,?_⟩
    show if (!decide ([f.a,f.b] = [0,1])) = true then _ else _
    rw [two_is]
    refine ite3 (fun c1 => ?_) (fun c1 => ?_)
    · have c1' : isP f.a f.b 0 = false := by simpa using c1
      have y := q H1 s1
      rw [c1'] at y
      exact y
    have c1' : isP f.a f.b 0 = true := by simpa using c1
    rw [c1',Bool.true_and] at q
    have hl1 := hl.t s1.t
    refine ⟨_,rfl,z.p,_,_,_,rfl,rfl,SqT.of hl1.p_,rfl,_,rfl,l1,xs1,rfl,s1 _ _ e1,sz (by simp),fun t2 H2 s2 g2 _ => ?_⟩
    refine ⟨z.x,t2,[z.a,z.b],[(xs1.length : Int) - 1,1],rfl,rfl,SqT.of (s2 _ _ hl1.x_),SqT.of g2,_,rfl,?_⟩
    show if (!decide ([z.a,z.b] = [(xs1.length : Int) - 1,1])) = true then _ else _
    rw [two_is]
    refine ite3 (fun c2 => ?_) (fun c2 => ?_)
    · have c2' : isP z.a z.b ((xs1.length : Int) - 1) = false := by simpa using c2
      have y := q H2 (s1.trans s2)
      rw [c2'] at y
      exact y
    have c2' : isP z.a z.b ((xs1.length : Int) - 1) = true := by simpa using c2
    rw [c2'] at q
    refine ⟨_,rfl,rfl,_,rfl,ite3 (fun c3 => ?_) (fun c3 => ?_)⟩
    · have e : w = wPart := by
        have : V.str w = V.str wPart := dec_t c3
        cases this
        rfl
      have y := q H2 (s1.trans s2)
      rw [if_pos rfl,if_pos e] at y
      exact y
    · have e : ¬ w = wPart := fun z => by
        subst z
        exact absurd c3 (by decide)
      rw [if_pos rfl,if_neg e] at q
      have hf2 := hf.t (s1.trans s2).t
      have hl2 := hl1.t s2.t
      refine ⟨_,rfl,f.p,_,_,_,rfl,rfl,SqT.of hf2.p_,rfl,sz (by simp),fun t3 H3 s3 g3 _ => ?_⟩
      refine ⟨f.y,t3,[f.c,f.d],[0,1],rfl,rfl,SqT.of (s3 _ _ hf2.y_),SqT.of g3,_,rfl,?_⟩
      show if (decide ([f.c,f.d] = [0,1])) = true then _ else _
      rw [two_is]
      refine ite3 (fun c4 => ?_) (fun c4 => ?_)
      · rw [c4,Bool.true_and] at q
        have hl3 := hl2.t s3.t
        refine ⟨_,rfl,z.p,_,_,_,rfl,rfl,SqT.of hl3.p_,rfl,_,rfl,l2,xs2,rfl,(s1.trans (s2.trans s3)) _ _ e2,sz (by simp),fun t4 H4 s4 g4 _ => ?_⟩
        refine ⟨z.y,t4,[z.c,z.d],[(xs2.length : Int) - 1,1],rfl,rfl,SqT.of (s4 _ _ hl3.y_),SqT.of g4,?_⟩
        show Q (.bl (decide ([z.c,z.d] = [(xs2.length : Int) - 1,1]))) H4
        rw [two_is]
        exact q H4 (s1.trans (s2.trans (s3.trans s4)))
      · have y := q H3 (s1.trans (s2.trans s3))
        rw [c4] at y
        exact y
theorem S_goes_on : FnScope ["begin","end"] ["begin","end"] (defScope (top 80)) := ⟨rfl,rfl,rfl,by decide +kernel,rfl,by decide +kernel,by decide +kernel⟩
theorem fn_goes_on (D_goes_on : Df K mg "goes_on" (top 80)) (F_less : Fn P w K mg base "less" ["a","b"] 1 spLess) (F_share_a_stretch : Fn P w K mg base "share_a_stretch" ["one","other"] 3 spShare) : Fn P w K mg base "goes_on" ["begin","end"] 4 (spGo2 fun a b c d => (!decide (c * b < a * d)) && shareB a b c d) := by
  refine D_goes_on.fn S_goes_on (fun _ _ _ _ _ _ us hl => by obtain ⟨_,_,rfl⟩ := len2 hl; rfl) (fun vs H Q E h => ?_) (fun f cdv A outer s H vs Q E hr h => ?_)
  · obtain ⟨p,q,a,b,c,d,rfl,_⟩ := h
    rfl
  · obtain ⟨p,q,a,b,c,d,rfl,ep,eq,sa,sc,k⟩ := h
    refine ⟨_,(pss_one (ps_ret (pe_and (pe_not (pe_fn F_less (hr.mono (by decide)) (by rfl) (pa_cons (pv 1) (pa_cons (pv 0) pa_nil)))) (pe_one (pe_fn F_share_a_stretch (hr.mono (by decide)) (by rfl) (pa_cons (pv 0) (pa_cons (pv 1) pa_nil))))))),?_⟩
    dsimp only at k
    refine ⟨_,rfl,_,rfl,q,p,c,d,a,b,rfl,eq,ep,⟨bits_le sc.ba (by decide),bits_le sc.bb (by decide),bits_le sa.ba (by decide),bits_le sa.bb (by decide)⟩,_,rfl,_,rfl,ite3 (fun h1 => ?_) (fun h1 => ?_)⟩
    · refine ⟨_,rfl,_,rfl,p,q,a,b,c,d,rfl,ep,eq,sa,sc,fun H' s' => ?_⟩
      have y := k H' s'
      rw [h1,Bool.true_and] at y
      exact y
    · have y := k H (Same.refl _)
      rw [h1,Bool.false_and] at y
      exact y
theorem S_goes_freely : FnScope ["begin","end"] ["begin","end"] (defScope (top 81)) := ⟨rfl,rfl,rfl,by decide +kernel,rfl,by decide +kernel,by decide +kernel⟩
theorem fn_goes_freely (D_goes_freely : Df K mg "goes_freely" (top 81)) (F_share_a_stretch : Fn P w K mg base "share_a_stretch" ["one","other"] 3 spShare) : Fn P w K mg base "goes_freely" ["begin","end"] 4 (spGo2 shareB) := by
  refine D_goes_freely.fn S_goes_freely (fun _ _ _ _ _ _ us hl => by obtain ⟨_,_,rfl⟩ := len2 hl; rfl) (fun vs H Q E h => ?_) (fun f cdv A outer s H vs Q E hr h => ?_)
  · obtain ⟨p,q,a,b,c,d,rfl,_⟩ := h
    rfl
  · obtain ⟨p,q,a,b,c,d,rfl,ep,eq,sa,sc,k⟩ := h
    refine ⟨_,(pss_one (ps_ret (pe_fn F_share_a_stretch (hr.mono (by decide)) (by rfl) (pa_cons (pv 0) (pa_cons (pv 1) pa_nil))))),?_⟩
    exact ⟨_,rfl,_,rfl,p,q,a,b,c,d,rfl,ep,eq,sa,sc,k⟩
theorem S_hops : FnScope ["begin","end"] ["begin","end"] (defScope (top 82)) := ⟨rfl,rfl,rfl,by decide +kernel,rfl,by decide +kernel,by decide +kernel⟩
theorem fn_hops (D_hops : Df K mg "hops" (top 82)) : Fn P w K mg base "hops" ["begin","end"] 1 (spGo2 fun a b c d => decide (b = 1) && (decide (d = 1) && (decide (c - a = 0) || decide (c - a = 1)))) := by
  refine D_hops.fn S_hops (fun _ _ _ _ _ _ us hl => by obtain ⟨_,_,rfl⟩ := len2 hl; rfl) (fun vs H Q E h => ?_) (fun f cdv A outer s H vs Q E hr h => ?_)
  · obtain ⟨p,q,a,b,c,d,rfl,_⟩ := h
    rfl
  · obtain ⟨p,q,a,b,c,d,rfl,ep,eq,sa,sc,k⟩ := h
    refine ⟨_,(pss_one (ps_ret (pe_and (pe_cmpR op_eq (pe_ix ix_tup (pv 0) pe_int (fun _ _ => rfl)) pe_int (nomark _)) (pe_and (pe_cmpR op_eq (pe_ix ix_tup (pv 1) pe_int (fun _ _ => rfl)) pe_int (nomark _)) (pe_one (pe_cmpR op_in_seq (pe_op op_sub (pe_ix ix_tup (pv 1) pe_int (fun _ _ => rfl)) (pe_ix ix_tup (pv 0) pe_int (fun _ _ => rfl))) (pe_tupA (pa_cons pe_int (pa_cons pe_int pa_nil))) (by rfl))))))),?_⟩
    dsimp only at k
    have di : ∀ i j : Int,decide (V.int i = V.int j) = decide (i = j) := fun i j => by
      rw [Bool.eq_iff_iff]
      simp
    refine ⟨_,rfl,p,_,_,_,rfl,rfl,SqT.of ep,rfl,rfl,_,rfl,?_⟩
    rw [di]
    refine ite3 (fun h1 => ?_) (fun h1 => ?_)
    · rw [h1,Bool.true_and] at k
      refine ⟨_,rfl,q,_,_,_,rfl,rfl,SqT.of eq,rfl,rfl,_,rfl,?_⟩
      rw [di]
      refine ite3 (fun h2 => ?_) (fun h2 => ?_)
      · rw [h2,Bool.true_and] at k
        refine ⟨_,rfl,q,_,_,_,rfl,rfl,SqT.of eq,rfl,_,rfl,p,_,_,_,rfl,rfl,SqT.of ep,rfl,_,_,rfl,rfl,sz (by simp),fun t H1 s1 g1 _ => ?_⟩
        refine ⟨t,_,rfl,.inr (SqT.of g1),rfl,rfl,?_⟩
        have e : inV (.int (c - a)) [.int 0,.int 1] = (decide (c - a = 0) || decide (c - a = 1)) := by
          show ((0 : Int) == (c - a) || ((1 : Int) == (c - a) || false)) = _
          rw [Bool.eq_iff_iff]
          simp only [Bool.or_eq_true,beq_iff_eq,decide_eq_true_eq,Bool.false_eq_true,or_false]
          omega
        show Q (.bl (inV (.int (c - a)) [.int 0,.int 1])) H1
        rw [e]
        exact k H1 s1
      · have y := k H (Same.refl _)
        rw [h2,Bool.false_and] at y
        exact y
    · have y := k H (Same.refl _)
      rw [h1,Bool.false_and] at y
      exact y
theorem S_may_step_walks : FnScope ["begin","end","way"] ["begin","end","way"] (defScope (top 83)) := ⟨rfl,rfl,rfl,by decide +kernel,rfl,by decide +kernel,by decide +kernel⟩
theorem fn_may_step_walks (D_may_step_walks : DfA K mg "may_step_walks" "may_step" (top 83)) (F_hops : Fn P w K mg base "hops" ["begin","end"] 1 (spGo2 fun a b c d => decide (b = 1) && (decide (d = 1) && (decide (c - a = 0) || decide (c - a = 1))))) (F_goes_freely : Fn P w K mg base "goes_freely" ["begin","end"] 4 (spGo2 shareB)) (F_goes_on : Fn P w K mg base "goes_on" ["begin","end"] 4 (spGo2 fun a b c d => (!decide (c * b < a * d)) && shareB a b c d)) : Fn P w K mg base "may_step_walks" ["begin","end","way"] 5 spMay := by
  refine D_may_step_walks.fn S_may_step_walks (fun _ _ _ _ _ _ us hl => by obtain ⟨_,_,_,rfl⟩ := len3 hl; rfl) (fun vs H Q E h => ?_) (fun f cdv A outer s H vs Q E hr h => ?_)
  · obtain ⟨p,q,a,b,c,d,w,rfl,_⟩ := h
    rfl
  · obtain ⟨p,q,a,b,c,d,w,rfl,ep,eq,sa,sc,k⟩ := h
    refine ⟨_,(pss_cons (ps_if (pt_cmpR op_eq (pv 2) pe_str (nomark _)) (pss_one (ps_ret (pe_fn F_hops (hr.mono (by decide)) (by rfl) (pa_cons (pv 0) (pa_cons (pv 1) pa_nil))))) pss_nil) (pss_cons (ps_if (pt_cmpR op_eq (pv 2) pe_str (nomark _)) (pss_one (ps_ret (pe_fn F_goes_freely (hr.mono (by decide)) (by rfl) (pa_cons (pv 0) (pa_cons (pv 1) pa_nil))))) pss_nil) (pss_one (ps_ret (pe_fn F_goes_on (hr.mono (by decide)) (by rfl) (pa_cons (pv 0) (pa_cons (pv 1) pa_nil))))))),?_⟩
    have ds : ∀ {u v : Str} {b : Bool},decide (V.str u = V.str v) = b → decide (u = v) = b := fun {u v b} h => by
      rw [← h,Bool.eq_iff_iff]
      simp
    unfold goB at k
    refine ⟨_,rfl,rfl,_,rfl,ite3 (fun h1 => ?_) (fun h1 => ?_)⟩
    · rw [if_pos (show w = wHops from dec_t (ds h1))] at k
      exact ⟨_,rfl,_,rfl,p,q,a,b,c,d,rfl,ep,eq,sa,sc,k⟩
    rw [if_neg (show ¬ w = wHops from dec_f (ds h1))] at k
    refine ⟨_,rfl,rfl,_,rfl,ite3 (fun h2 => ?_) (fun h2 => ?_)⟩
    · rw [if_pos (show w = wFree from dec_t (ds h2))] at k
      exact ⟨_,rfl,_,rfl,p,q,a,b,c,d,rfl,ep,eq,sa,sc,k⟩
    rw [if_neg (show ¬ w = wFree from dec_f (ds h2))] at k
    exact ⟨_,rfl,_,rfl,p,q,a,b,c,d,rfl,ep,eq,sa,sc,k⟩
theorem S_has_right_steps_walks : FnScope ["walk","way","begin","end"] ["walk","way"] (defScope (top 85)) := ⟨rfl,rfl,rfl,by decide +kernel,rfl,by decide +kernel,by decide +kernel⟩
theorem fn_has_right_steps_walks (D_has_right_steps_walks : DfA K mg "has_right_steps_walks" "has_right_steps" (top 85)) (F_may_step_walks : Fn P w K mg base "may_step_walks" ["begin","end","way"] 5 spMay) (T : Txt mg) : Fn P w K mg base "has_right_steps_walks" ["walk","way"] 6 spSteps := by
  refine D_has_right_steps_walks.fn S_has_right_steps_walks (fun _ _ _ _ _ _ us hl => by obtain ⟨_,_,rfl⟩ := len2 hl; rfl) (fun vs H Q E h => ?_) (fun f cdv A outer s H vs Q E hr h => ?_)
  · obtain ⟨l,ps,w,rfl,_⟩ := h
    rfl
  · obtain ⟨l,ps,w,rfl,P,hlen,k⟩ := h
    refine ⟨_,(pss_cons (ps_for PassesOwn.never rfl (pi_zip rfl T.z_zip (pa_cons (pv 0) (pa_cons (pe_slice sl_listA (pv 0) (po_some pe_int) po_none) pa_nil))) (pg_tup rfl (pgs_cons (pg_name (i := 2) S_has_right_steps_walks.nd rfl (Or.inl rfl)) (pgs_cons (pg_name (i := 3) S_has_right_steps_walks.nd rfl (Or.inl rfl)) pgs_nil))) (pss_one (ps_if (pw_or (pt_not (pt_val (pe_fn F_may_step_walks (hr.mono (by decide)) (by rfl) (pa_cons (pe_ix ix_tup (pv 2) pe_int (fun _ _ => rfl)) (pa_cons (pe_ix ix_tup (pv 3) pe_int (fun _ _ => rfl)) (pa_cons (pv 1) pa_nil)))))) (pw_or1 (pt_not (pt_val (pe_fn F_may_step_walks (hr.mono (by decide)) (by rfl) (pa_cons (pe_ix ix_tup (pv 2) pe_int (fun _ _ => rfl)) (pa_cons (pe_ix ix_tup (pv 3) pe_int (fun _ _ => rfl)) (pa_cons (pv 1) pa_nil)))))))).pt (pss_one (ps_ret pe_bl)) pss_nil))) (pss_one (ps_ret pe_bl))),?_⟩
    have ec : cutV (prs ps) (some 1) none = prs (ps.drop 1) := by
      unfold cutV prs
      rw [show (1 : Int) = ((1 : Nat) : Int) from rfl,HT.sIx_nat,HT.sIx_none,List.length_map,← List.map_drop]
      by_cases h : 1 ≤ ps.length
      · rw [Nat.min_eq_left h,List.take_of_length_le (by rw [List.length_map,List.length_drop]; exact Nat.le_refl _)]
      · have e0 : ps = [] := List.length_eq_zero_iff.mp (by omega)
        subst e0
        rfl
    refine ⟨_,rfl,_,rfl,_,rfl,l,_,rfl,SqL.of P.lst,fun l2 H1 s1 f1 n1 => ?_⟩
    rw [ec] at f1
    have P1 := P.mono s1
    have lmin : min (prs ps).length (prs (ps.drop 1)).length = ps.length - 1 := by rw [prs_len,prs_len,List.length_drop]; omega
    refine ⟨l,l2,rfl,⟨_,SqL.of P1.lst⟩,⟨_,SqL.of f1⟩,for_zip (K := K) (xs := prs ps) (ys := prs (ps.drop 1)) (fun i σ H2 => ∃ z1 z2,σ = [some (.ref l),some (.str w),z1,z2] ∧ Same H1 H2 ∧ ∀ (j : Nat) u v,j < i → ps[j]? = some u → ps[j + 1]? = some v → stepB w u v = true)
      ⟨_,_,rfl,Same.refl _,fun j u v h => absurd h (by omega)⟩ (fun i σ H2 _ ⟨_,_,_,s2,_⟩ => ⟨SqL.of (s2 _ _ P1.lst),SqL.of (s2 _ _ f1)⟩) ?_ ?_⟩
    · rintro i x y pp σ H2 H3 hx hy ⟨z1,z2,rfl,s2,hst⟩ s3 f3
      obtain ⟨u,hu,rfl⟩ := prs_get hx
      obtain ⟨v,hv,rfl⟩ := prs_get hy
      have hv' : ps[i + 1]? = some v := by rw [List.getElem?_drop] at hv; rw [Nat.add_comm]; exact hv
      have pu := (P1.pr u (List.mem_of_getElem? hu)).t (s2.trans s3).t
      have pv := (P1.pr v (List.mem_of_getElem? hv')).t (s2.trans s3).t
      have bad : stepB w u v = false → ∀ H',Same H3 H' → Q (.bl false) H' := fun hb H' s' => by
        have y := k H' (s1.trans (s2.trans (s3.trans s')))
        have z : stepsB w ps = false := by
          rw [Bool.eq_false_iff]
          intro z
          rw [steps_iff.mp z i u v hu hv'] at hb
          cases hb
        rw [z] at y
        exact y
      refine ⟨pp,_,rfl,SqT.of f3,rfl,_,_,rfl,_,_,rfl,rfl,?_⟩
      refine ⟨_,rfl,u.p,_,_,_,rfl,rfl,SqT.of pu.p_,rfl,_,rfl,v.p,_,_,_,rfl,rfl,SqT.of pv.p_,rfl,_,rfl,u.x,v.x,_,_,_,_,w,rfl,pu.x_,pv.x_,pu.sx,pv.sx,fun H4 s4 => ⟨_,rfl,ite3 (fun h1 => ?_) (fun h1 => ?_)⟩⟩
      · have h1 : goB w u.a u.b v.a v.b = false := by simpa using h1
        exact bad (by unfold stepB; rw [h1,Bool.false_and]) H4 s4
      have h1 : goB w u.a u.b v.a v.b = true := by simpa using h1
      have pu4 := pu.t s4.t
      have pv4 := pv.t s4.t
      refine ⟨_,rfl,u.p,_,_,_,rfl,rfl,SqT.of pu4.p_,rfl,_,rfl,v.p,_,_,_,rfl,rfl,SqT.of pv4.p_,rfl,_,rfl,u.y,v.y,_,_,_,_,w,rfl,pu4.y_,pv4.y_,pu4.sy,pv4.sy,fun H5 s5 => ⟨_,rfl,ite3 (fun h2 => ?_) (fun h2 => ?_)⟩⟩
      · have h2 : goB w u.c u.d v.c v.d = false := by simpa using h2
        exact bad (by unfold stepB; rw [h2,Bool.and_false]) H5 (s4.trans s5)
      have h2 : goB w u.c u.d v.c v.d = true := by simpa using h2
      refine ⟨_,_,rfl,s2.trans (s3.trans (s4.trans s5)),fun j u' v' hj eu ev => ?_⟩
      by_cases hji : j < i
      · exact hst j u' v' hji eu ev
      · have : j = i := by omega
        subst this
        rw [hu] at eu
        rw [hv'] at ev
        cases eu
        cases ev
        unfold stepB
        rw [h1,h2]
        rfl
    · rintro σ H2 ⟨z1,z2,rfl,s2,hst⟩
      have y := k H2 (s1.trans s2)
      have z : stepsB w ps = true := steps_iff.mpr fun j u v eu ev => hst j u v (by
        have := (List.getElem?_eq_some_iff.mp ev).1
        rw [lmin]
        omega) eu ev
      rw [z] at y
      exact y
theorem S_is_walk : FnScope ["one","other","thing","way"] ["one","other","thing","way"] (defScope (top 87)) := ⟨rfl,rfl,rfl,by decide +kernel,rfl,by decide +kernel,by decide +kernel⟩
theorem fn_is_walk {C : Addr} (D_is_walk : DfD K mg "is_walk" (top 87) [.str "on"]) (F_look_at_way : Fx P w K mg base "look_at_way" ["way"] 1 [] (spWayS C)) (F_are_pairs : Fn P w K mg base "are_pairs" ["one","other","thing"] 5 spPairs) (F_has_right_ends_walks : Fn P w K mg base "has_right_ends_walks" ["one","other","walk","way"] 2 spEnds) (F_has_right_steps_walks : Fn P w K mg base "has_right_steps_walks" ["walk","way"] 6 spSteps) : Fx P w K mg base "is_walk" ["one","other","thing","way"] 7 [.str "on"] (spIsWalk C) := by
  refine D_is_walk.fx S_is_walk (fun T kV doc pm an cdv ct us its oT n s hv hl ho hs => ?_) (fun T kV doc pm an cdv ct us its oT n s hv hl ho hs => ?_) (fun vs H Q E h => ?_) (fun f cdv A outer s H vs Q E hr h => ?_)
  · obtain ⟨u,rfl,_⟩ := vals1 hv
    match us,hl with
    | [_,_,_,_],_ => exact BindsTo.of_defaults rfl ho hs rfl rfl
  · obtain ⟨u,rfl,_⟩ := vals1 hv
    have hl1 : us.length = 3 := by simpa using hl
    match us,hl1 with
    | [_,_,_],_ => exact BindsTo.of_defaults rfl ho hs rfl rfl
  · obtain ⟨l1,l2,xs1,xs2,v,x,t,rfl,_⟩ := h
    rfl
  · obtain ⟨l1,l2,xs1,xs2,v,x,t,rfl,⟨e1,n1⟩,⟨e2,n2⟩,pt,kn,h⟩ := h
    refine ⟨_,(pss_cons (ps_expr (pe_fx F_look_at_way (hr.mono (by decide)) (by rfl) (pa_cons (pv 3) pa_nil))) (pss_cons (ps_if (pt_not (pt_val (pe_fn F_are_pairs (hr.mono (by decide)) (by rfl) (pa_cons (pv 0) (pa_cons (pv 1) (pa_cons (pv 2) pa_nil)))))) (pss_one (ps_ret pe_bl)) pss_nil) (pss_one (ps_ret (pe_and (pe_fn F_has_right_ends_walks (hr.mono (by decide)) (by rfl) (pa_cons (pv 0) (pa_cons (pv 1) (pa_cons (pv 2) (pa_cons (pv 3) pa_nil))))) (pe_one (pe_fn F_has_right_steps_walks (hr.mono (by decide)) (by rfl) (pa_cons (pv 2) (pa_cons (pv 3) pa_nil))))))))),?_⟩
    rcases h with ⟨w,rfl,hw,q⟩ | ⟨hn,hE⟩
    · refine ⟨_,rfl,_,_,rfl,kn,.inl ⟨w,rfl,hw,?_⟩⟩
      refine ⟨_,rfl,_,rfl,_,rfl,l1,l2,xs1,xs2,v,rfl,⟨e1,n1⟩,⟨e2,n2⟩,pt,fun H1 s1 => ⟨_,rfl,ite3 (fun h1 => ?_) (fun h1 => ?_)⟩⟩
      · exact q false H1 s1 (.inl ⟨by simpa using h1,rfl⟩)
      · have h1 : pairsV ((xs1.length : Int) - 1) ((xs2.length : Int) - 1) H v = true := by simpa using h1
        obtain ⟨l,ps,rfl,P,hne,hin,hlen⟩ := pairsV_inv pt h1
        match ps,hne,P,hin,hlen with
        | f :: r,_,P,hin,hlen =>
          refine ⟨_,rfl,_,rfl,_,rfl,_,rfl,l1,l2,l,xs1,xs2,f,r,w,rfl,s1 _ _ e1,s1 _ _ e2,P.mono s1,fun H2 s2 => ⟨_,rfl,ite3 (fun h2 => ?_) (fun h2 => ?_)⟩⟩
          · refine ⟨_,rfl,_,rfl,l,f :: r,w,rfl,(P.mono s1).mono s2,hlen,fun H3 s3 => q _ H3 (s1.trans (s2.trans s3)) (.inr ⟨l,f :: r,rfl,P,?_⟩)⟩
            rw [walkB_cons,hin,h2]
            rfl
          · refine q _ H2 (s1.trans s2) (.inr ⟨l,f :: r,rfl,P,?_⟩)
            rw [walkB_cons,hin,h2]
            rfl
    · exact ⟨_,rfl,_,_,rfl,kn,.inr ⟨hn,hE⟩⟩
theorem gcd_step' {a b : Int} (hb : 0 < b) : Int.gcd b (a % b) = Int.gcd a b := by
  have e : a = a % b + a / b * b := by
    have := Int.emod_add_mul_ediv a b
    rw [Int.mul_comm] at this
    omega
  have h := Int.gcd_add_mul_right_right b (a % b) (a / b)
  rw [← e] at h
  rw [Int.gcd_comm a b,h]
def spDiv : Sp := fun vs H Q _ => ∃ a b : Int,vs = [.int a,.int b] ∧ 0 ≤ b ∧ Q (.int (Int.gcd a b : Int)) H
def spLRat : Sp := fun vs H Q _ => ∃ a b : Int,vs = [.int a,.int b] ∧ (0 < b ∧ bits b ≤ 2000) ∧ ∀ (p : Addr) (t u : Int) (H' : Hp),Frac a b t u → t = a / (Int.gcd a b : Int) → u = b / (Int.gcd a b : Int) → Same H H' → H' p = some (.tup [.int t,.int u]) → H p = none → Q (.ref p) H'
def spSpot : Sp := fun vs H Q _ => ∃ (p : Addr) (n k : Int),vs = [.ref p,.int n] ∧ Pot H p k ∧ k ≤ 800000 ∧ (0 ≤ n ∧ n ≤ 100) ∧ ∀ (z : Addr) (t b : Int) (H' : Hp),Low t b → n * b ≤ t → t ≤ (n + 1) * b → bits t ≤ 200 → bits b ≤ 60 → But p H H' → H' z = some (.tup [.int t,.int b]) → Pot H' p (k + 10) → Q (.ref z) H'
structure Dp (H : Hp) (z : Addr) (t b n : Int) (w : Str) : Prop where
  at_ : H z = some (.tup [.int t,.int b])
  low : Low t b
  n0 : 0 ≤ t
  n1 : t ≤ n * b
  bt : bits t ≤ 200
  bb : bits b ≤ 60
  hop : w = wHops → b = 1
theorem Dp.t' {H H' : Hp} {z : Addr} {t b n : Int} {w : Str} (d : Dp H z t b n w) (s : SameT H H') : Dp H' z t b n w := ⟨s _ _ d.at_,d.low,d.n0,d.n1,d.bt,d.bb,d.hop⟩
def spAny : Sp := fun vs H Q _ => ∃ (p : Addr) (n k : Int) (w : Str),vs = [.ref p,.int n,.str w] ∧ Pot H p k ∧ k ≤ 700000 ∧ (0 ≤ n ∧ n ≤ 50) ∧ ∀ (z : Addr) (t b : Int) (H' : Hp),Dp H' z t b n w → But p H H' → Pot H' p (k + 20) → Q (.ref z) H'
def spAhead : Sp := fun vs H Q _ => ∃ (p z0 : Addr) (t0 b0 n k : Int) (w : Str),vs = [.ref p,.ref z0,.int n,.str w] ∧ Pot H p k ∧ k ≤ 700000 ∧ (0 ≤ n ∧ n ≤ 50) ∧ Dp H z0 t0 b0 n w ∧ ∀ (z : Addr) (t b : Int) (H' : Hp),Dp H' z t b n w → goB w t0 b0 t b = true → But p H H' → Pot H' p (k + 20) → Q (.ref z) H'
def homeT (t b n : Int) : Int := if t / b + 1 < n then t / b + 1 else n
def spHome : Sp := fun vs H Q _ => ∃ (z0 : Addr) (t0 b0 n : Int) (w : Str),vs = [.ref z0,.int n] ∧ (0 ≤ n ∧ n ≤ 50) ∧ Dp H z0 t0 b0 n w ∧ ∀ (z : Addr) (H' : Hp),Dp H' z (homeT t0 b0 n) 1 n w → goB w t0 b0 (homeT t0 b0 n) 1 = true → Same H H' → Q (.ref z) H'
theorem share_of {k a b c d : Int} (hb : 0 < b) (hd : 0 < d) (h1 : k * b ≤ a) (h2 : a ≤ (k + 1) * b) (h3 : k * d ≤ c) (h4 : c ≤ (k + 1) * d) : shareB a b c d = true := by
  unfold shareB
  split
  · have q := fl_ge hd h3
    have q2 : (k + 1) * b ≤ (c / d + 1) * b := Int.mul_le_mul_of_nonneg_right (by omega) (by omega)
    rw [decide_eq_false (by rw [Int.mul_one]; omega)]
    rfl
  · have q := fl_ge hb h1
    have q2 : (k + 1) * d ≤ (a / b + 1) * d := Int.mul_le_mul_of_nonneg_right (by omega) (by omega)
    rw [decide_eq_false (by rw [Int.mul_one]; omega)]
    rfl
theorem go_of {w : Str} {k a b c d : Int} (hb : 0 < b) (hd : 0 < d) (h1 : k * b ≤ a) (h2 : a ≤ (k + 1) * b) (h3 : k * d ≤ c) (h4 : c ≤ (k + 1) * d) (hw : w = wHops → b = 1 ∧ d = 1 ∧ (c - a = 0 ∨ c - a = 1)) (hf : w ≠ wFree → ¬ c * b < a * d) : goB w a b c d = true := by
  unfold goB
  split
  · rename_i h
    obtain ⟨e1,e2,e3⟩ := hw h
    rw [decide_eq_true e1,decide_eq_true e2,Bool.true_and,Bool.true_and,Bool.or_eq_true,decide_eq_true_eq,decide_eq_true_eq]
    exact e3
  · split
    · exact share_of hb hd h1 h2 h3 h4
    · rename_i h
      rw [decide_eq_false (hf h),share_of hb hd h1 h2 h3 h4]
      rfl
theorem go_self {w : Str} {a b : Int} (hb : 0 < b) (hw : w = wHops → b = 1) : goB w a b a b = true :=
  go_of (k := a / b) hb hb (fl_le hb) (by have := fl_lt (a := a) hb; omega) (fl_le hb) (by have := fl_lt (a := a) hb; omega) (fun h => ⟨hw h,hw h,.inl (by omega)⟩) (fun _ => by omega)
theorem fl_le_n {t b n : Int} (hb : 0 < b) (h : t ≤ n * b) : t / b ≤ n := Int.ediv_le_of_le_mul hb h
theorem fl_full {t b n : Int} (h : Low t b) (h1 : t ≤ n * b) (e : t / b = n) : t = n ∧ b = 1 := by
  have hb : 0 < b := h.pos
  have q := fl_le (a := t) hb
  rw [e] at q
  have et : t = n * b := by omega
  have z := low_unique h (⟨by decide,Int.gcd_one⟩ : Low n 1) (by rw [et]; rw [Int.mul_one])
  exact z
theorem homeT_le (t b n : Int) : homeT t b n ≤ n := by unfold homeT; split <;> omega
theorem home_go {w : Str} {t b n : Int} (h : Low t b) (h0 : 0 ≤ t) (h1 : t ≤ n * b) (hw : w = wHops → b = 1) : goB w t b (homeT t b n) 1 = true ∧ 0 ≤ homeT t b n := by
  have hb : 0 < b := h.pos
  have f0 := fl_nn hb h0
  have f1 := fl_le_n hb h1
  have g1 := fl_le (a := t) hb
  have g2 := fl_lt (a := t) hb
  by_cases hlt : t / b + 1 ≤ n
  · have e : homeT t b n = t / b + 1 := by unfold homeT; split <;> omega
    rw [e]
    refine ⟨go_of (k := t / b) hb (by decide) g1 (by omega) (by omega) (by omega) (fun z => ?_) (fun _ => by rw [Int.mul_one]; omega),by omega⟩
    have eb := hw z
    subst eb
    rw [Int.ediv_one]
    exact ⟨rfl,rfl,.inr (by omega)⟩
  · have ef : t / b = n := by omega
    obtain ⟨rfl,rfl⟩ := fl_full h h1 ef
    have e : homeT t 1 t = t := by unfold homeT; rw [Int.ediv_one]; split <;> omega
    rw [e]
    exact ⟨go_self (by decide) (fun _ => rfl),h0⟩
theorem S_law_moved : FnScope ["pot","number"] ["pot","number"] (defScope (top 98)) := ⟨rfl,rfl,rfl,by decide +kernel,rfl,by decide +kernel,by decide +kernel⟩
theorem fn_law_moved (D_law_moved : Df K mg "_law_moved" (top 98)) (F_law_take : Fn P w K mg base "_law_take" ["pot","size"] 1 Dr.spTk) (T : Txt mg) : Fn P w K mg base "_law_moved" ["pot","number"] 2 spMoved := by
  refine D_law_moved.fn S_law_moved (fun _ _ _ _ _ _ us hl => by obtain ⟨_,_,rfl⟩ := len2 hl; rfl) (fun vs H Q E h => ?_) (fun f cdv A outer s H vs Q E hr h => ?_)
  · obtain ⟨p,n,k,rfl,_⟩ := h
    rfl
  · obtain ⟨p,n,k,rfl,pt,hk,q⟩ := h
    refine ⟨_,(pss_one (ps_ret (pe_callB (call_max2 rfl) (by rfl) T.z_max bt_max (pa_cons (pe_op op_sub pe_int (pe_op op_pow pe_int pe_int)) (pa_cons (pe_callB (call_min2 rfl) (by rfl) T.z_min bt_min (pa_cons (pe_op op_sub (pe_op op_pow pe_int pe_int) pe_int) (pa_cons (pe_op op_sub (pe_op op_add (pv 1) (pe_fn F_law_take (hr.mono (by decide)) (by rfl) (pa_cons (pv 0) (pa_cons pe_int pa_nil)))) pe_int) pa_nil))) pa_nil))))),?_⟩
    have e12 : (10 : Int) ^ (12 : Int).toNat = 1000000000000 := by decide +kernel
    refine ⟨_,_,rfl,rfl,⟨by decide,by decide,by decide⟩,_,_,rfl,rfl,_,_,rfl,rfl,⟨by decide,by decide,by decide⟩,_,_,rfl,rfl,_,rfl,_,rfl,p,_,_,rfl,pt,by omega,⟨by decide,by decide⟩,fun r H1 a1 b1 b2 p2 => ?_⟩
    refine ⟨_,_,rfl,rfl,_,_,rfl,rfl,_,_,rfl,_,_,rfl,q _ _ ?_ b2 p2⟩
    show -999999999999 ≤ _ ∧ _ ≤ 999999999999
    rw [e12]
    constructor <;> (split <;> split <;> omega)
theorem S_law_drawn_other : FnScope ["pot","line","way"] ["pot","line"] (defScope (top 99)) := ⟨rfl,rfl,rfl,by decide +kernel,rfl,by decide +kernel,by decide +kernel⟩
theorem fn_law_drawn_other (D_law_drawn_other : Df K mg "_law_drawn_other" (top 99)) (F_law_take : Fn P w K mg base "_law_take" ["pot","size"] 1 Dr.spTk) (F_law_moved : Fn P w K mg base "_law_moved" ["pot","number"] 2 spMoved) (F_law_drawn_line : Fn P w K mg base "_law_drawn_line" ["pot"] 3 Dr.spDLine) (T : Txt mg) : Fn P w K mg base "_law_drawn_other" ["pot","line"] 4 spOther := by
  refine D_law_drawn_other.fn S_law_drawn_other (fun _ _ _ _ _ _ us hl => by obtain ⟨_,_,rfl⟩ := len2 hl; rfl) (fun vs H Q E h => ?_) (fun f cdv A outer s H vs Q E hr h => ?_)
  · obtain ⟨p,l,qs,k,rfl,_⟩ := h
    rfl
  · obtain ⟨p,l,qs,k,rfl,pt,hk,L,⟨hq1,hq10⟩,q⟩ := h
    have CN : CompN (cxOf CX0 P w K mg base ["pot","line","way"] "_law_drawn_other" (defScope (top 99)) f cdv A outer s H E).nox (compScope (retExpr (ifBody ((defBody (top 99)).getD 1 (.Pass ⟨0,0,0,0⟩))))) [("pot",s.heap.objs.size + 1)] "corner" [("pot",0)] :=
      ⟨by rfl,rfl,by decide +kernel,by decide +kernel,rfl,(fun p hp => by rw [List.mem_singleton.mp hp]; rfl),by rfl,by decide +kernel,(fun p hp => by rw [List.mem_singleton.mp hp]; exact ⟨rfl,rfl,.inr (.inl rfl),rfl,rfl⟩),⟨rfl,rfl⟩,rfl⟩
    refine ⟨_,(pss_cons (ps_set (i := 2) S_law_drawn_other.nd rfl (Or.inl rfl) (pe_fn F_law_take (hr.mono (by decide)) (by rfl) (pa_cons (pv 0) (pa_cons pe_int pa_nil)))) (pss_cons (ps_if (pt_cmpR op_eq (pv 2) pe_int (nomark _)) (pss_one (ps_ret (pe_compA rfl CN (pi_list (pv 1)) (fun fp s₀ H₀ => (pe_tupA (pa_cons (pe_fn F_law_moved (hr.mono (by decide)) (by rfl) (pa_cons (pv 1) (pa_cons (pe_ix (ix_tupK (K := K) rfl) (pv 0) pe_int (fun _ _ => rfl)) pa_nil))) (pa_cons (pe_fn F_law_moved (hr.mono (by decide)) (by rfl) (pa_cons (pv 1) (pa_cons (pe_ix (ix_tupK (K := K) rfl) (pv 0) pe_int (fun _ _ => rfl)) pa_nil))) pa_nil))))))) pss_nil) (pss_cons (ps_if (pt_cmpR op_eq (pv 2) pe_int (nomark _)) (pss_one (ps_ret (pe_list_rev rfl rfl T.z_list rfl T.z_reversed (pv 1)))) pss_nil) (pss_one (ps_ret (pe_fn F_law_drawn_line (hr.mono (by decide)) (by rfl) (pa_cons (pv 0) pa_nil))))))),?_⟩
    have npl : l ≠ p := fun z => by
      obtain ⟨x,y,w,ep,_⟩ := pt
      subst z
      have e := L.lst
      rw [ep] at e
      cases qs with
      | nil => exact absurd hq1 (by simp)
      | cons c cs =>
        have e' := congrArg (fun o => match o with | some (HO.lst (V.ref _ :: _)) => true | _ => false) e
        exact absurd e' (by simp)
    have hll : (qs.map fun (q : Addr × Int × Int) => V.ref q.1).length = qs.length := List.length_map _
    refine ⟨_,rfl,p,_,_,rfl,pt,by omega,⟨by decide,by decide⟩,fun r1 H1 _ _ b1 p1 => ?_⟩
    have L1 := L.but b1 pt npl
    refine ⟨_,rfl,rfl,_,rfl,ite3 (fun h1 => ?_) (fun h1 => ?_)⟩
    · refine ⟨_,rfl,l,rfl,⟨_,SqL.of L1.lst⟩,fun r nr => ?_⟩
      have npr := Pot.ne p1 nr
      have nlr : l ≠ r := ne_of_none L1.lst nr
      refine comp_list (K := K) (a := l) (xs := qs.map fun (q : Addr × Int × Int) => V.ref q.1) (l := r) (fv := [("pot",0)]) (σ := [some (.ref p),some (.ref l),some (.int r1)]) (Qp := fun H2 => Q (.ref r) H2) (fun i acc H2 => ∃ rs : Crn,i ≤ qs.length ∧ acc = rs.map (fun z => V.ref z.1) ∧ rs.length = i ∧ (∀ z ∈ rs,H2 z.1 = some (.tup [.int z.2.1,.int z.2.2]) ∧ Sm z.2.1 ∧ Sm z.2.2) ∧ But p H1 H2 ∧ Pot H2 p (k + 1 + 2 * (i : Int)) ∧ H2 r = some (.lst acc))
        ⟨[],Nat.zero_le _,rfl,rfl,(fun z h => nomatch h),But.of (Same.new nr),by simpa using p1.same (Same.new nr),upd_same⟩ ?_ ?_ ?_
      · rintro i acc H2 hi ⟨rs,hi',rfl,hl,_,b2,_,e3⟩
        exact ⟨SqL.of (b2 _ _ npl L1.lst),e3,small1000 (by rw [List.length_map]; omega)⟩
      · rintro i y acc H2 Kc hy ⟨rs,hi,rfl,hl,hrs,b2,p2,e3⟩ kk
        rw [List.getElem?_map] at hy
        obtain ⟨qq,hqi,rfl⟩ := Option.map_eq_some_iff.mp hy
        have hlt : i < qs.length := (List.getElem?_eq_some_iff.mp hqi).1
        have c := b2.t p1 _ _ (L1.crn qq (List.mem_of_getElem? hqi)).1
        refine ⟨_,rfl,_,rfl,qq.1,_,_,_,rfl,rfl,SqT.of c,rfl,p,_,_,rfl,p2,by omega,fun x3 H3 sm3 b3 p3 => ?_⟩
        have c3 := b3.t p2 _ _ c
        refine ⟨_,rfl,_,rfl,qq.1,_,_,_,rfl,rfl,SqT.of c3,rfl,p,_,_,rfl,p3,by omega,fun x4 H4 sm4 b4 p4 => ?_⟩
        refine ⟨sz (by simp),fun pt' H5 s5 f5 n5 => ?_⟩
        have e5 := s5 _ _ (b4 _ _ npr (b3 _ _ npr e3))
        refine kk (.ref pt') H5 e5 ⟨rs ++ [(pt',x3,x4)],hlt,by rw [List.map_append]; rfl,by simp [hl],fun z hz => ?_,fun b o nb e => ?_,?_,upd_same⟩
        · have u := SameT.upd (ys := (rs.map fun z => V.ref z.1) ++ [V.ref pt']) e5
          rcases List.mem_append.mp hz with hz | hz
          · exact ⟨u _ _ (s5 _ _ (b4.t p3 _ _ (b3.t p2 _ _ (hrs z hz).1))),(hrs z hz).2⟩
          · rw [List.mem_singleton.mp hz]
            exact ⟨u _ _ f5,sm3,sm4⟩
        · by_cases hbr : b = r
          · subst hbr
            rw [nr] at e
            cases e
          · rw [upd_ne hbr]
            exact s5 _ _ (b4 b o nb (b3 b o nb (b2 b o nb e)))
        · obtain ⟨x,y,z,ep,rest⟩ := (p4.same s5).mono (k' := k + 1 + 2 * ((i + 1 : Nat) : Int)) (by omega)
          exact ⟨x,y,z,by rw [upd_ne (Ne.symm npr)]; exact ep,rest⟩
      · rintro acc H2 ⟨rs,_,rfl,hl,hrs,b2,p2,e3⟩
        rw [hll] at hl
        exact q r rs H2 ⟨e3,hrs⟩ (by omega) (by omega) (b1.none npr nr) (b1.trans b2)
    · refine ⟨_,rfl,rfl,_,rfl,ite3 (fun h2 => ?_) (fun h2 => ?_)⟩
      · refine ⟨_,rfl,l,_,rfl,SqL.of L1.lst,fun r H2 s2 f2 n2 => ?_⟩
        have npr := Pot.ne p1 n2
        have er : (qs.map fun (q : Addr × Int × Int) => V.ref q.1).reverse = qs.reverse.map fun (q : Addr × Int × Int) => V.ref q.1 := by rw [List.map_reverse]
        rw [er] at f2
        exact q r qs.reverse H2 ⟨f2,fun z hz => ⟨s2 _ _ (L1.crn z (List.mem_reverse.mp hz)).1,(L1.crn z (List.mem_reverse.mp hz)).2⟩⟩ (by rw [List.length_reverse]; exact hq1) (by rw [List.length_reverse]; exact hq10) (b1.none npr n2) (b1.trans (But.of s2))
      · refine ⟨_,rfl,p,_,rfl,p1,by omega,fun r rs H2 L2 h1' h2' n2 b2 p2 => ?_⟩
        have npr := Pot.ne p1 n2
        exact q r rs H2 L2 h1' h2' (b1.none npr n2) (b1.trans b2)
theorem S_law_lines : FnScope ["script","one"] ["script"] (defScope (top 100)) := ⟨rfl,rfl,rfl,by decide +kernel,rfl,by decide +kernel,by decide +kernel⟩
theorem fn_law_lines (D_law_lines : Df K mg "_law_lines" (top 100)) (F_law_cell_at : Fn P w K mg base "_law_cell_at" ["script","k"] 1 (Dr.spCell K)) (F_law_begun : Fn P w K mg base "_law_begun" ["cell"] 1 Dr.spBegun) (F_law_drawn_line : Fn P w K mg base "_law_drawn_line" ["pot"] 3 Dr.spDLine) (F_law_drawn_other : Fn P w K mg base "_law_drawn_other" ["pot","line"] 4 spOther) : Fn P w K mg base "_law_lines" ["script"] 5 (spLines K) := by
  refine D_law_lines.fn S_law_lines (fun _ _ _ _ _ _ us hl => by obtain ⟨_,rfl⟩ := len1 hl; rfl) (fun vs H Q E h => ?_) (fun f cdv A outer s H vs Q E hr h => ?_)
  · obtain ⟨sa,ss,rfl,_⟩ := h
    rfl
  · obtain ⟨sa,ss,rfl,hS,q⟩ := h
    refine ⟨_,(pss_cons (ps_set (i := 1) S_law_lines.nd rfl (Or.inl rfl) (pe_fn F_law_drawn_line (hr.mono (by decide)) (by rfl) (pa_cons (pe_fn F_law_begun (hr.mono (by decide)) (by rfl) (pa_cons (pe_fn F_law_cell_at (hr.mono (by decide)) (by rfl) (pa_cons (pv 0) (pa_cons pe_int pa_nil))) pa_nil)) pa_nil))) (pss_one (ps_ret (pe_tupA (pa_cons (pv 1) (pa_cons (pe_fn F_law_drawn_other (hr.mono (by decide)) (by rfl) (pa_cons (pe_fn F_law_begun (hr.mono (by decide)) (by rfl) (pa_cons (pe_fn F_law_cell_at (hr.mono (by decide)) (by rfl) (pa_cons (pv 0) (pa_cons pe_int pa_nil))) pa_nil)) (pa_cons (pv 1) pa_nil))) pa_nil)))))),?_⟩
    refine ⟨_,rfl,sa,ss,0,rfl,hS,by decide,fun c0 => ?_⟩
    refine ⟨c0,rfl,fun p0 H0 s0 n0 pt0 => ?_⟩
    refine ⟨p0,0,rfl,pt0,by decide,fun l qs H1 L1 h1 h10 nl b1 _ => ?_⟩
    have s1 : Same H H1 := b1.same s0 n0
    refine ⟨_,rfl,_,rfl,sa,ss,1,rfl,s1.seq hS,by decide,fun c1 => ?_⟩
    refine ⟨c1,rfl,fun p2 H2 s2 n2 pt2 => ⟨_,rfl,p2,l,qs,0,rfl,pt2,by decide,L1.mono s2,⟨h1,h10⟩,fun r rs H3 L3 h3 h30 nr b3 => ?_⟩⟩
    have nlp : l ≠ p2 := ne_of_none L1.lst n2
    have s3 : Same H1 H3 := b3.same s2 n2
    have L3' : LineM H3 l qs := L1.mono s3
    refine ⟨sz (by simp),fun t H4 s4 f4 n4 => ?_⟩
    exact q t l r qs rs H4 (s1.trans (s3.trans s4)) f4 (L3'.mono s4) ⟨h1,h10⟩ (L3.mono s4) ⟨h3,h30⟩ (s0.free nl) (s1.free (s2.free nr)) (ne_of_none (s2 _ _ L1.lst) nr)
theorem S_law_divisor : FnScope ["one","other"] ["one","other"] (defScope (top 101)) := ⟨rfl,rfl,rfl,by decide +kernel,rfl,by decide +kernel,by decide +kernel⟩
theorem fn_law_divisor (D_law_divisor : Df K mg "_law_divisor" (top 101)) (T : Txt mg) : Fn P w K mg base "_law_divisor" ["one","other"] 1 spDiv := by
  refine D_law_divisor.fn S_law_divisor (fun _ _ _ _ _ _ us hl => by obtain ⟨_,_,rfl⟩ := len2 hl; rfl) (fun vs H Q E h => ?_) (fun f cdv A outer s H vs Q E hr h => ?_)
  · obtain ⟨a,b,rfl,_⟩ := h
    rfl
  · obtain ⟨a,b,rfl,hb,q⟩ := h
    refine ⟨_,(pss_cons (ps_while PassesOwn.never (pt_cmpR op_ne (pv 1) pe_int (nomark _)) (pss_one (ps_par (i := 0) (j := 1) rfl S_law_divisor.nd rfl rfl (by decide) rfl rfl (pa_cons (pv 1) (pa_cons (pe_op op_mod (pv 0) (pv 1)) pa_nil)) (by rfl)))) (pss_one (ps_ret (pe_callB call_abs (by rfl) T.z_abs bt_abs (pa_cons (pv 0) pa_nil))))),?_⟩
    refine while_by (fun σ H' => ∃ x y : Int,σ = [some (.int x),some (.int y)] ∧ H' = H ∧ 0 ≤ y ∧ Int.gcd x y = Int.gcd a b)
      (fun σ _ => match σ with | [_,some (.int y)] => y.toNat | _ => 0) ⟨_,_,rfl,rfl,hb,rfl⟩ ?_ ?_
    · rintro σ H' ⟨x,y,rfl,rfl,hy,hg⟩
      refine ⟨_,rfl,rfl,_,rfl,?_⟩
      refine ite3 (fun hc => ?_) (fun hc => ?_)
      · have hy0 : ¬ y = 0 := by simpa using hc
        have hy1 : 0 < y := by omega
        refine ⟨_,rfl,_,rfl,_,rfl,x,y,rfl,rfl,hy1,_,_,rfl,⟨y,x % y,rfl,rfl,Int.emod_nonneg _ hy0,?_⟩,?_⟩
        · rw [gcd_step' hy1]
          exact hg
        · have h1 := Int.emod_lt_of_pos x hy1
          have h2 := Int.emod_nonneg x hy0
          show (x % y).toNat < y.toNat
          omega
      · have hy0 : y = 0 := by simpa using hc
        subst hy0
        refine ⟨_,rfl,x,rfl,?_⟩
        have e : (Int.gcd a b : Int) = (if x < 0 then -x else x) := by rw [← hg,Int.gcd_zero]; split <;> omega
        rw [e] at q
        exact q
    · rintro σ H' Q1 Q2 hq ⟨v,e,hs,k,ek,r⟩
      exact ⟨v,e,hs,k,ek,hq _ _ r⟩
theorem S_law_ratio : FnScope ["top","bottom","by"] ["top","bottom"] (defScope (top 102)) := ⟨rfl,rfl,rfl,by decide +kernel,rfl,by decide +kernel,by decide +kernel⟩
theorem fn_law_ratio (D_law_ratio : Df K mg "_law_ratio" (top 102)) (F_law_divisor : Fn P w K mg base "_law_divisor" ["one","other"] 1 spDiv) : Fn P w K mg base "_law_ratio" ["top","bottom"] 2 spLRat := by
  refine D_law_ratio.fn S_law_ratio (fun _ _ _ _ _ _ us hl => by obtain ⟨_,_,rfl⟩ := len2 hl; rfl) (fun vs H Q E h => ?_) (fun f cdv A outer s H vs Q E hr h => ?_)
  · obtain ⟨a,b,rfl,_⟩ := h
    rfl
  · obtain ⟨a,b,rfl,⟨hb,bb⟩,q⟩ := h
    refine ⟨_,(pss_cons (ps_set (i := 2) S_law_ratio.nd rfl (Or.inl rfl) (pe_fn F_law_divisor (hr.mono (by decide)) (by rfl) (pa_cons (pv 0) (pa_cons (pv 1) pa_nil)))) (pss_one (ps_ret (pe_tupA (pa_cons (pe_op op_fdivP (pv 0) (pv 2)) (pa_cons (pe_op op_fdivP (pv 1) (pv 2)) pa_nil)))))),?_⟩
    refine ⟨_,rfl,_,rfl,a,b,rfl,by omega,?_⟩
    have hg := gcd_pos (a := a) (b := b) (by omega)
    have bg : bits (Int.gcd a b : Int) ≤ 8000 := bits_le (gcd_bits2 (by omega) bb) (by decide)
    refine ⟨_,rfl,_,rfl,_,_,rfl,rfl,⟨hg,bg⟩,_,rfl,_,rfl,_,_,rfl,rfl,⟨hg,bg⟩,sz (by simp),fun p H1 s1 f1 n1 => ?_⟩
    exact q p _ _ H1 (frac_pos hb) rfl rfl s1 f1 n1
theorem S_law_below : FnScope ["one","other"] ["one","other"] (defScope (top 103)) := ⟨rfl,rfl,rfl,by decide +kernel,rfl,by decide +kernel,by decide +kernel⟩
theorem fn_law_below (D_law_below : Df K mg "_law_below" (top 103)) : Fn P w K mg base "_law_below" ["one","other"] 1 spLess := by
  refine D_law_below.fn S_law_below (fun _ _ _ _ _ _ us hl => by obtain ⟨_,_,rfl⟩ := len2 hl; rfl) (fun vs H Q E h => ?_) (fun f cdv A outer s H vs Q E hr h => ?_)
  · obtain ⟨p,q,a,b,c,d,rfl,_⟩ := h
    rfl
  · obtain ⟨p,q,a,b,c,d,rfl,hp,hq,⟨ba,bb,bc,bd⟩,k⟩ := h
    refine ⟨_,(pss_one (ps_ret (pe_cmpR op_lt (pe_op op_mulX (pe_ix ix_tup (pv 0) pe_int (fun _ _ => rfl)) (pe_ix ix_tup (pv 1) pe_int (fun _ _ => rfl))) (pe_op op_mulX (pe_ix ix_tup (pv 1) pe_int (fun _ _ => rfl)) (pe_ix ix_tup (pv 0) pe_int (fun _ _ => rfl))) (nomark _)))),?_⟩
    walk_at "rd"
    exact k
theorem S_law_spot_on : FnScope ["pot","at","parts"] ["pot","at"] (defScope (top 114)) := ⟨rfl,rfl,rfl,by decide +kernel,rfl,by decide +kernel,by decide +kernel⟩
theorem fn_law_spot_on (D_law_spot_on : Df K mg "_law_spot_on" (top 114)) (F_law_take : Fn P w K mg base "_law_take" ["pot","size"] 1 Dr.spTk) (F_law_wide : Fn P w K mg base "_law_wide" ["pot","size"] 2 Dr.spWd) (F_law_ratio : Fn P w K mg base "_law_ratio" ["top","bottom"] 2 spLRat) : Fn P w K mg base "_law_spot_on" ["pot","at"] 3 spSpot := by
  refine D_law_spot_on.fn S_law_spot_on (fun _ _ _ _ _ _ us hl => by obtain ⟨_,_,rfl⟩ := len2 hl; rfl) (fun vs H Q E h => ?_) (fun f cdv A outer s H vs Q E hr h => ?_)
  · obtain ⟨p,n,k,rfl,_⟩ := h
    rfl
  · obtain ⟨p,n,k,rfl,pt,hk,⟨hn0,hn1⟩,q⟩ := h
    refine ⟨_,(pss_cons (ps_set (i := 2) S_law_spot_on.nd rfl (Or.inl rfl) (pe_op op_add pe_int (pe_fn F_law_wide (hr.mono (by decide)) (by rfl) (pa_cons (pv 0) (pa_cons (pe_ix ix_list (pe_lstA (pa_cons pe_int (pa_cons pe_int (pa_cons pe_int (pa_cons (pe_op op_pow pe_int pe_int) pa_nil))))) (pe_fn F_law_take (hr.mono (by decide)) (by rfl) (pa_cons (pv 0) (pa_cons pe_int pa_nil))) (fun _ _ => rfl)) pa_nil))))) (pss_one (ps_ret (pe_fn F_law_ratio (hr.mono (by decide)) (by rfl) (pa_cons (pe_op op_add (pe_op op_mulX (pv 1) (pv 2)) (pe_fn F_law_wide (hr.mono (by decide)) (by rfl) (pa_cons (pv 0) (pa_cons (pe_op op_add (pv 2) pe_int) pa_nil)))) (pa_cons (pv 2) pa_nil)))))),?_⟩
    have e18 : (10 : Int) ^ (18 : Int).toNat = 1000000000000000000 := by decide +kernel
    refine ⟨_,rfl,_,_,rfl,rfl,⟨by decide,by decide,by decide⟩,sz (by simp),fun pl H1 s1 f1 n1 => ?_⟩
    have np1 := Pot.ne pt n1
    have p1 := pt.same s1
    refine ⟨_,rfl,p,_,_,rfl,p1,by omega,⟨by decide,by decide⟩,fun r2 H2 a2 b2' b2 p2 => ?_⟩
    refine menuI (fun m => 1 ≤ m ∧ m ≤ 1000000000000000000) (b2 _ _ np1 f1) a2 (by simpa using b2') (fun v hv => ?_) fun m hm => ?_
    · simp only [List.mem_cons,List.not_mem_nil,or_false] at hv
      rcases hv with rfl | rfl | rfl | rfl
      · exact ⟨_,rfl,by decide,by decide⟩
      · exact ⟨_,rfl,by decide,by decide⟩
      · exact ⟨_,rfl,by decide,by decide⟩
      · exact ⟨_,rfl,by rw [e18]; decide,by rw [e18]; decide⟩
    have bits61 : ∀ {z : Int},0 ≤ z → z ≤ 1000000000000000001 → bits z ≤ 61 := fun {z} h0 h1 => bits_of (n := 61) (by show _ < 2305843009213693952; omega)
    refine ⟨p,_,_,rfl,p2,by omega,⟨by omega,bits_le (bits61 (by omega) (by omega)) (by decide)⟩,fun r3 H3 a3 b3' b3 p3 => ⟨_,_,rfl,rfl,?_⟩⟩
    have bn : bits n ≤ 10 := bits_small (by omega) (by omega)
    have bp : bits (1 + r3) ≤ 61 := bits61 (by omega) (by omega)
    have bp60 : bits (1 + r3) ≤ 60 := bits_of (n := 60) (by show _ < 1152921504606846976; omega)
    refine ⟨_,rfl,_,rfl,_,_,rfl,rfl,CM.l (lt64s (by omega) (by omega)),_,rfl,_,rfl,_,_,rfl,rfl,p,_,_,rfl,p3,by omega,⟨by omega,bits_le (bits61 (by omega) (by omega)) (by decide)⟩,fun r4 H4 a4 b4' b4 p4 => ⟨_,_,rfl,rfl,?_⟩⟩
    have B4 : But p H H4 := ((But.of s1).trans b2).trans (b3.trans b4)
    refine ⟨_,rfl,_,_,rfl,⟨by omega,bits_le bp (by decide)⟩,fun z t b H5 fr et eb s5 f5 n5 => ?_⟩
    have hb : 0 < b := fr.low.pos
    have hpp : 0 < 1 + r3 := by omega
    have heq := fr.eq
    have br4 : bits r4 ≤ 61 := bits61 (by omega) (by omega)
    have btop : bits (n * (1 + r3) + r4) ≤ 100 := by walk_at "bl"
    refine q z t b H5 fr.low ?_ ?_ ?_ ?_ (B4.trans (But.of s5)) f5 ((p4.same s5).mono (by omega))
    · have h1 : n * b * (1 + r3) ≤ t * (1 + r3) := by
        rw [← heq]
        have : 0 ≤ r4 * b := Int.mul_nonneg a4 (by omega)
        have e : (n * (1 + r3) + r4) * b = n * b * (1 + r3) + r4 * b := by grind
        omega
      exact Int.le_of_mul_le_mul_right h1 hpp
    · have h1 : t * (1 + r3) ≤ (n + 1) * b * (1 + r3) := by
        rw [← heq]
        have : r4 * b ≤ (1 + r3) * b := Int.mul_le_mul_of_nonneg_right (by omega) (by omega)
        have e : (n * (1 + r3) + r4) * b = n * b * (1 + r3) + r4 * b := by grind
        have e2 : (n + 1) * b * (1 + r3) = n * b * (1 + r3) + (1 + r3) * b := by grind
        omega
      exact Int.le_of_mul_le_mul_right h1 hpp
    · rw [et]
      exact bits_le (bits_ediv (gcd_pos (by omega)) btop) (by decide)
    · rw [eb]
      exact bits_ediv (gcd_pos (by omega)) bp60
theorem S_law_any : FnScope ["pot","last","way"] ["pot","last","way"] (defScope (top 115)) := ⟨rfl,rfl,rfl,by decide +kernel,rfl,by decide +kernel,by decide +kernel⟩
theorem fn_law_any (D_law_any : Df K mg "_law_any" (top 115)) (F_law_take : Fn P w K mg base "_law_take" ["pot","size"] 1 Dr.spTk) (F_law_spot_on : Fn P w K mg base "_law_spot_on" ["pot","at"] 3 spSpot) : Fn P w K mg base "_law_any" ["pot","last","way"] 4 spAny := by
  refine D_law_any.fn S_law_any (fun _ _ _ _ _ _ us hl => by obtain ⟨_,_,_,rfl⟩ := len3 hl; rfl) (fun vs H Q E h => ?_) (fun f cdv A outer s H vs Q E hr h => ?_)
  · obtain ⟨p,n,k,w,rfl,_⟩ := h
    rfl
  · obtain ⟨p,n,k,w,rfl,pt,hk,⟨hn0,hn1⟩,q⟩ := h
    refine ⟨_,(pss_cons (ps_if (pw_or (pt_cmpR op_eq (pv 1) pe_int (nomark _)) (pw_or (pt_cmpR op_eq (pv 2) pe_str (nomark _)) (pw_or1 (pt_cmpR op_eq (pe_fn F_law_take (hr.mono (by decide)) (by rfl) (pa_cons (pv 0) (pa_cons pe_int pa_nil))) pe_int (nomark _))))).pt (pss_one (ps_ret (pe_tupA (pa_cons (pe_fn F_law_take (hr.mono (by decide)) (by rfl) (pa_cons (pv 0) (pa_cons (pe_op op_add (pv 1) pe_int) pa_nil))) (pa_cons pe_int pa_nil))))) pss_nil) (pss_one (ps_ret (pe_fn F_law_spot_on (hr.mono (by decide)) (by rfl) (pa_cons (pv 0) (pa_cons (pe_fn F_law_take (hr.mono (by decide)) (by rfl) (pa_cons (pv 0) (pa_cons (pv 1) pa_nil))) pa_nil)))))),?_⟩
    have whole : ∀ (H1 : Hp) (k' : Int),But p H H1 → Pot H1 p k' → k' ≤ k + 5 → (tRet (tTupA (tCons (tCall spTk [] E0 (tCons (tVar 0) (tCons (tOp (rI0 fun i j => .int (i + j)) (tVar 1) (tC (.int 1))) tNil))) (tCons (tC (.int 1)) tNil)))) { nx := fun _ H' => Q .non H',rt := Q } [some (.ref p),some (.int n),some (.str w)] H1 := fun H1 k' b1 p1 hk' => by
      refine ⟨_,rfl,_,rfl,_,_,rfl,rfl,p,_,_,rfl,p1,by omega,⟨by omega,bits_le (bits_small (by omega) (by omega)) (by decide)⟩,fun r2 H2 a2 b2' b2 p2 => ?_⟩
      refine ⟨sz (by simp),fun z H3 s3 f3 n3 => q z r2 1 H3 ⟨f3,⟨by decide,Int.gcd_one⟩,a2,by omega,bits_le (bits_small (by omega) (by omega)) (by decide),by decide,fun _ => rfl⟩ (b1.trans (b2.trans (But.of s3))) ((p2.same s3).mono (by omega))⟩
    refine ⟨_,rfl,rfl,_,rfl,ite3 (fun h1 => ?_) (fun h1 => ?_)⟩
    · exact whole H k But.refl pt (by omega)
    have hn : n ≠ 0 := by
      intro z
      subst z
      exact absurd h1 (by decide)
    refine ⟨_,rfl,rfl,_,rfl,ite3 (fun h2 => ?_) (fun h2 => ?_)⟩
    · exact whole H k But.refl pt (by omega)
    have hw : w ≠ wHops := fun z => by
      subst z
      exact absurd h2 (by decide)
    refine ⟨_,rfl,p,_,_,rfl,pt,by omega,⟨by decide,by decide⟩,fun r1 H1 _ _ b1 p1 => ?_⟩
    refine ⟨rfl,_,rfl,ite3 (fun h3 => ?_) (fun h3 => ?_)⟩
    · exact whole H1 (k + 1) b1 p1 (by omega)
    refine ⟨_,rfl,_,rfl,_,rfl,p,_,_,rfl,p1,by omega,⟨by omega,bits_le (bits_small (by omega) (by omega)) (by decide)⟩,fun r2 H2 a2 b2' b2 p2 => ?_⟩
    refine ⟨p,_,_,rfl,p2,by omega,⟨a2,by omega⟩,fun z t b H3 lw g1 g2 bt bb b3 f3 p3 => ?_⟩
    have hb := lw.pos
    have h0 : 0 ≤ r2 * b := Int.mul_nonneg a2 (by omega)
    have h9 : (r2 + 1) * b ≤ n * b := Int.mul_le_mul_of_nonneg_right (by omega) (by omega)
    exact q z t b H3 ⟨f3,lw,by omega,by omega,bt,bb,fun z => absurd z hw⟩ (b1.trans (b2.trans b3)) (p3.mono (by omega))
theorem S_law_ahead : FnScope ["pot","place","last","way","at","turn","spot"] ["pot","place","last","way"] (defScope (top 116)) := ⟨rfl,rfl,rfl,by decide +kernel,rfl,by decide +kernel,by decide +kernel⟩
theorem fn_law_ahead (D_law_ahead : Df K mg "_law_ahead" (top 116)) (F_law_take : Fn P w K mg base "_law_take" ["pot","size"] 1 Dr.spTk) (F_law_spot_on : Fn P w K mg base "_law_spot_on" ["pot","at"] 3 spSpot) (F_law_below : Fn P w K mg base "_law_below" ["one","other"] 1 spLess) : Fn P w K mg base "_law_ahead" ["pot","place","last","way"] 4 spAhead := by
  refine D_law_ahead.fn S_law_ahead (fun _ _ _ _ _ _ us hl => by obtain ⟨_,_,_,_,rfl⟩ := len4 hl; rfl) (fun vs H Q E h => ?_) (fun f cdv A outer s H vs Q E hr h => ?_)
  · obtain ⟨p,z0,t0,b0,n,k,wy,rfl,_⟩ := h
    rfl
  · obtain ⟨p,z0,t0,b0,n,k,wy,rfl,pt,hk,⟨hn0,hn1⟩,d0,q⟩ := h
    have hb := d0.low.pos
    have bb0 : bits b0 ≤ 8000 := bits_le d0.bb (by decide)
    have f0 := fl_nn hb d0.n0
    have f1 := fl_le_n hb d0.n1
    have g1 := fl_le (a := t0) hb
    have g2 := fl_lt (a := t0) hb
    have stay : ∀ {H1 : Hp} {k' : Int},But p H H1 → Pot H1 p k' → k' ≤ k + 20 → Q (.ref z0) H1 := fun b1 p1 hk' => q z0 t0 b0 _ (d0.t' (b1.t pt)) (go_self hb d0.hop) b1 (p1.mono hk')
    have R : ∃ u,PSs (cxOf CX0 P w K mg base ["pot","place","last","way","at","turn","spot"] "_law_ahead" (defScope (top 116)) f cdv A outer s H E).nox ((defBody (top 116)).drop 4) u ∧ ∀ (r1 : Int) (H2 : Hp) (k' : Int),But p H H2 → Pot H2 p k' → k' ≤ k + 3 → u { nx := fun _ H' => Q .non H',rt := Q } [some (.ref p),some (.ref z0),some (.int n),some (.str wy),some (.int (t0 / b0)),some (.int r1),none] H2 := by
      refine ⟨_,(pss_cons (ps_if (pt_cmpR op_eq (pv 4) (pv 2) (nomark _)) (pss_one (ps_ret (pv 1))) pss_nil) (pss_cons (ps_set (i := 6) S_law_ahead.nd rfl (Or.inl rfl) (pe_tupA (pa_cons (pe_op op_add (pv 4) pe_int) (pa_cons pe_int pa_nil)))) (pss_cons (ps_if (pw_and (pt_cmpR op_eq (pv 5) pe_int (nomark _)) (pw_and1 (pt_cmpR op_ne (pv 3) pe_str (nomark _)))).pt (pss_one (ps_set (i := 6) S_law_ahead.nd rfl (Or.inl rfl) (pe_fn F_law_spot_on (hr.mono (by decide)) (by rfl) (pa_cons (pv 0) (pa_cons (pv 4) pa_nil))))) pss_nil) (pss_cons (ps_if (pw_and (pt_cmpR op_ne (pv 3) pe_str (nomark _)) (pw_and1 (pt_val (pe_fn F_law_below (hr.mono (by decide)) (by rfl) (pa_cons (pv 6) (pa_cons (pv 1) pa_nil)))))).pt (pss_one (ps_ret (pv 1))) pss_nil) (pss_one (ps_ret (pv 6))))))),fun r1 H2 k' b2 p2 hk2 => ?_⟩
      have d2 := d0.t' (b2.t pt)
      refine ⟨_,rfl,_,rfl,rfl,_,rfl,ite3 (fun h2 => ?_) (fun h2 => ?_)⟩
      · exact ⟨_,rfl,stay b2 p2 (by omega)⟩
      have hne : t0 / b0 ≠ n := fun z => by
        rw [z] at h2
        exact absurd h2 (by simp)
      refine ⟨_,rfl,_,_,rfl,rfl,sz (by simp),fun zs H3 s3 f3 n3 => ?_⟩
      have fin : ∀ (zs : Addr) (t b : Int) (H4 : Hp) (k4 : Int),Dp H4 zs t b n wy → (t0 / b0) * b ≤ t → t ≤ (t0 / b0 + 1) * b → (wy = wHops → t = t0 / b0 + 1 ∧ b = 1) → But p H H4 → Pot H4 p k4 → k4 ≤ k + 20 →
          (tSeq (tIfS (tAnd (tTest (tOp rNe (tVar 3) (tC (.str wFree)))) (tB (tCall spLess [] E0 (tCons (tVar 6) (tCons (tVar 1) tNil))))) (tRet (tVar 1)) tNext) (tRet (tVar 6))) { nx := fun _ H' => Q .non H',rt := Q } [some (.ref p),some (.ref z0),some (.int n),some (.str wy),some (.int (t0 / b0)),some (.int r1),some (.ref zs)] H4 := by
        intro zs t b H4 k4 d4 j1 j2 jh b4 p4 hk4
        have d04 := d0.t' (b4.t pt)
        have hb4 := d4.low.pos
        have go : (wy ≠ wFree → ¬ t * b0 < t0 * b) → goB wy t0 b0 t b = true := fun hf => go_of (k := t0 / b0) hb hb4 g1 (by omega) j1 j2 (fun z => by
          obtain ⟨e1,e2⟩ := jh z
          have e3 := d0.hop z
          subst e2 e3
          rw [Int.ediv_one] at e1
          exact ⟨rfl,rfl,.inr (by omega)⟩) hf
        refine ⟨_,rfl,rfl,_,rfl,ite3 (fun h3 => ?_) (fun h3 => ?_)⟩
        · refine ⟨_,rfl,_,rfl,zs,z0,_,_,_,_,rfl,d4.at_,d04.at_,⟨bits_le d4.bt (by decide),bits_le d4.bb (by decide),bits_le d04.bt (by decide),bits_le d04.bb (by decide)⟩,_,rfl,ite3 (fun h4 => ?_) (fun h4 => ?_)⟩
          · exact ⟨_,rfl,stay b4 p4 hk4⟩
          · exact ⟨_,rfl,q zs t b H4 d4 (go fun _ => dec_f h4) b4 (p4.mono hk4)⟩
        · have ew : wy = wFree := by
            have h3' : decide (V.str wy = V.str wFree) = true := by simpa using h3
            have := dec_t h3'
            cases this
            rfl
          exact ⟨_,rfl,q zs t b H4 d4 (go fun z => absurd ew z) b4 (p4.mono hk4)⟩
      have b3 : But p H H3 := b2.trans (But.of s3)
      have p3 := p2.same s3
      have hm : (t0 / b0 + 1) ≤ n := by omega
      have dS : Dp H3 zs (t0 / b0 + 1) 1 n wy := ⟨f3,⟨by decide,Int.gcd_one⟩,by omega,by omega,bits_le (bits_small (by omega) (by omega)) (by decide),by decide,fun _ => rfl⟩
      refine ⟨_,rfl,rfl,_,rfl,ite3 (fun h5 => ?_) (fun h5 => ?_)⟩
      · refine ⟨_,rfl,rfl,_,rfl,ite3 (fun h6 => ?_) (fun h6 => ?_)⟩
        · have nw : wy ≠ wHops := fun z => by
            subst z
            exact absurd h6 (by decide)
          refine ⟨_,rfl,_,rfl,p,_,_,rfl,p3,by omega,⟨f0,by omega⟩,fun zt t b H4 lw c1 c2 bt bb b4 f4 p4 => ?_⟩
          have hbz := lw.pos
          have m0 : 0 ≤ t0 / b0 * b := Int.mul_nonneg f0 (by omega)
          have m1 : (t0 / b0 + 1) * b ≤ n * b := Int.mul_le_mul_of_nonneg_right hm (by omega)
          exact fin zt t b H4 _ ⟨f4,lw,by omega,by omega,bt,bb,fun z => absurd z nw⟩ c1 c2 (fun z => absurd z nw) (b3.trans b4) p4 (by omega)
        · exact fin zs _ 1 H3 _ dS (by omega) (by omega) (fun _ => ⟨rfl,rfl⟩) b3 p3 (by omega)
      · exact fin zs _ 1 H3 _ dS (by omega) (by omega) (fun _ => ⟨rfl,rfl⟩) b3 p3 (by omega)
    obtain ⟨u,hu,ru⟩ := R
    refine ⟨_,(pss_cons (ps_set (i := 4) S_law_ahead.nd rfl (Or.inl rfl) (pe_op op_fdivP (pe_ix ix_tup (pv 1) pe_int (fun _ _ => rfl)) (pe_ix ix_tup (pv 1) pe_int (fun _ _ => rfl)))) (pss_cons (ps_set (i := 5) S_law_ahead.nd rfl (Or.inl rfl) (pe_fn F_law_take (hr.mono (by decide)) (by rfl) (pa_cons (pv 0) (pa_cons pe_int pa_nil)))) (pss_cons (ps_if (pt_cmpR op_eq (pv 5) pe_int (nomark _)) (pss_one (ps_ret (pv 1))) pss_nil) (pss_cons (ps_if (pw_and (pt_cmpR op_eq (pv 3) pe_str (nomark _)) (pw_and (pt_cmpR op_gt (pv 4) pe_int (nomark _)) (pw_and (pt_cmpR op_eq (pe_ix ix_tup (pv 1) pe_int (fun _ _ => rfl)) pe_int (nomark _)) (pw_and1 (pt_cmpR op_eq (pe_fn F_law_take (hr.mono (by decide)) (by rfl) (pa_cons (pv 0) (pa_cons pe_int pa_nil))) pe_int (nomark _)))))).pt (pss_one (ps_ret (pe_fn F_law_spot_on (hr.mono (by decide)) (by rfl) (pa_cons (pv 0) (pa_cons (pe_op op_sub (pv 4) pe_int) pa_nil))))) pss_nil) hu)))),?_⟩
    refine ⟨_,rfl,z0,_,_,_,rfl,rfl,SqT.of d0.at_,rfl,_,rfl,z0,_,_,_,rfl,rfl,SqT.of d0.at_,rfl,_,_,rfl,rfl,⟨hb,bb0⟩,?_⟩
    refine ⟨_,rfl,p,_,_,rfl,pt,by omega,⟨by decide,by decide⟩,fun r1 H1 a1 b1' b1 p1 => ?_⟩
    have d1 := d0.t' (b1.t pt)
    refine ⟨_,rfl,rfl,_,rfl,ite3 (fun h1 => ?_) (fun h1 => ?_)⟩
    · exact ⟨_,rfl,stay b1 p1 (by omega)⟩
    refine ⟨_,rfl,rfl,_,rfl,ite3 (fun h2 => ?_) (fun h2 => ?_)⟩
    · have ew : wy = wFree := by
        have := dec_t h2
        cases this
        rfl
      refine ⟨_,rfl,_,_,rfl,rfl,_,rfl,ite3 (fun h3 => ?_) (fun h3 => ?_)⟩
      · have h3 : 0 < t0 / b0 := dec_t h3
        refine ⟨_,rfl,z0,_,_,_,rfl,rfl,SqT.of d1.at_,rfl,rfl,_,rfl,ite3 (fun h4 => ?_) (fun h4 => ?_)⟩
        · have h4 : b0 = 1 := by
            have := dec_t h4
            cases this
            rfl
          refine ⟨_,rfl,p,_,_,rfl,p1,by omega,⟨by decide,by decide⟩,fun r2 H2 _ _ b2 p2 => ?_⟩
          refine ⟨rfl,_,rfl,ite3 (fun h5 => ?_) (fun h5 => ?_)⟩
          · refine ⟨_,rfl,_,rfl,_,_,rfl,rfl,p,_,_,rfl,p2,by omega,⟨by omega,by omega⟩,fun zt t b H4 lw c1 c2 bt bb b4 f4 p4 => ?_⟩
            have hbz := lw.pos
            subst h4
            rw [Int.ediv_one] at c1 c2 h3 f1
            have m0 : 0 ≤ (t0 - 1) * b := Int.mul_nonneg (by omega) (by omega)
            have m1 : t0 * b ≤ n * b := Int.mul_le_mul_of_nonneg_right f1 (by omega)
            have e1 : t0 - 1 + 1 = t0 := by omega
            have c2' : t ≤ t0 * b := by rw [e1] at c2; exact c2
            have hgo : (wy ≠ wFree → ¬ t * 1 < t0 * b) → (wy = wHops → (1 : Int) = 1 ∧ b = 1 ∧ (t - t0 = 0 ∨ t - t0 = 1)) → goB wy t0 1 t b = true := fun hf hh => go_of (k := t0 - 1) (by decide) hbz (by omega) (by omega) c1 c2 hh hf
            have nh : wy ≠ wHops := fun z => by
              rw [ew] at z
              exact absurd z (by decide)
            exact q zt t b H4 ⟨f4,lw,by omega,by omega,bt,bb,fun z => absurd z nh⟩ (hgo (fun z => absurd ew z) fun z => absurd z nh) (b1.trans (b2.trans b4)) (p4.mono (by omega))
          · exact ru r1 H2 _ (b1.trans b2) p2 (by omega)
        · exact ru r1 H1 _ b1 p1 (by omega)
      · exact ru r1 H1 _ b1 p1 (by omega)
    · exact ru r1 H1 _ b1 p1 (by omega)
theorem S_law_home : FnScope ["place","last"] ["place","last"] (defScope (top 117)) := ⟨rfl,rfl,rfl,by decide +kernel,rfl,by decide +kernel,by decide +kernel⟩
theorem fn_law_home (D_law_home : Df K mg "_law_home" (top 117)) (T : Txt mg) : Fn P w K mg base "_law_home" ["place","last"] 1 spHome := by
  refine D_law_home.fn S_law_home (fun _ _ _ _ _ _ us hl => by obtain ⟨_,_,rfl⟩ := len2 hl; rfl) (fun vs H Q E h => ?_) (fun f cdv A outer s H vs Q E hr h => ?_)
  · obtain ⟨z0,t0,b0,n,w,rfl,_⟩ := h
    rfl
  · obtain ⟨z0,t0,b0,n,w,rfl,⟨hn0,hn1⟩,d0,q⟩ := h
    refine ⟨_,(pss_one (ps_ret (pe_tupA (pa_cons (pe_callB (call_min2 rfl) (by rfl) T.z_min bt_min (pa_cons (pv 1) (pa_cons (pe_op op_add (pe_op op_fdivP (pe_ix ix_tup (pv 0) pe_int (fun _ _ => rfl)) (pe_ix ix_tup (pv 0) pe_int (fun _ _ => rfl))) pe_int) pa_nil))) (pa_cons pe_int pa_nil))))),?_⟩
    have hb := d0.low.pos
    obtain ⟨hg,h0⟩ := home_go (w := w) d0.low d0.n0 d0.n1 d0.hop
    have hle := homeT_le t0 b0 n
    refine ⟨_,rfl,_,rfl,z0,_,_,_,rfl,rfl,SqT.of d0.at_,rfl,_,rfl,z0,_,_,_,rfl,rfl,SqT.of d0.at_,rfl,_,_,rfl,rfl,⟨hb,bits_le d0.bb (by decide)⟩,_,_,rfl,rfl,_,_,rfl,sz (by simp),fun z H1 s1 f1 _ => ?_⟩
    have e : (if t0 / b0 + 1 < n then t0 / b0 + 1 else n) = homeT t0 b0 n := rfl
    have f1' : H1 z = some (.tup [.int (homeT t0 b0 n),.int 1]) := f1
    exact q z H1 ⟨f1',⟨by decide,Int.gcd_one⟩,h0,by omega,bits_le (bits_small (by omega) (by omega)) (by decide),by decide,fun _ => rfl⟩ hg s1
def ME (t : TE) : Prop := ∀ σ H Q Q',(∀ v H1,Q v H1 → Q' v H1) → t σ H Q → t σ H Q'
def MT (t : TT) : Prop := ∀ σ H Q Q',(∀ b H1,Q b H1 → Q' b H1) → t σ H Q → t σ H Q'
def MA (t : TA) : Prop := ∀ σ H Q Q',(∀ v H1,Q v H1 → Q' v H1) → t σ H Q → t σ H Q'
def MR (r : R2) : Prop := ∀ x y H Q Q',(∀ v H1,Q v H1 → Q' v H1) → r x y H Q → r x y H Q'
theorem me_var {i : Nat} : ME (tVar i) := fun σ H Q Q' hq ⟨v,e,h⟩ => ⟨v,e,hq _ _ h⟩
theorem me_c {v : V} : ME (tC v) := fun σ H Q Q' hq h => hq _ _ h
theorem me_op {r : R2} {a b : TE} (hr : MR r) (ha : ME a) (hb : ME b) : ME (tOp r a b) := fun σ H Q Q' hq h => ha σ H _ _ (fun x H1 h1 => hb σ H1 _ _ (fun y H2 h2 => hr x y H2 Q Q' hq h2) h1) h
theorem mr_eqI {K : PySem.W.Frag} {neg : Bool} : MR (rEqI K neg) := fun x y H Q Q' hq ⟨p,q,ns,ms,e1,e2,h1,h2,k⟩ => ⟨p,q,ns,ms,e1,e2,h1,h2,hq _ _ k⟩
theorem mr_ne : MR rNe := fun x y H Q Q' hq ⟨h,k⟩ => ⟨h,hq _ _ k⟩
theorem ma_nil : MA tNil := fun σ H Q Q' hq h => hq _ _ h
theorem ma_cons {a : TE} {r : TA} (ha : ME a) (hr : MA r) : MA (tCons a r) := fun σ H Q Q' hq h => ha σ H _ _ (fun x H1 h1 => hr σ H1 _ _ (fun xs H2 h2 => hq _ _ h2) h1) h
theorem me_tupA {t : TA} (h : MA t) : ME (tTupA t) := fun σ H Q Q' hq k => h σ H _ _ (fun xs H1 ⟨z,f⟩ => ⟨z,fun p H2 s e n => hq _ _ (f p H2 s e n)⟩) k
theorem mt_test {t : TE} (h : ME t) : MT (tTest t) := fun σ H Q Q' hq k => h σ H _ _ (fun x H1 ⟨b,e,f⟩ => ⟨b,e,hq _ _ f⟩) k
theorem mt_or {a b : TT} (ha : MT a) (hb : MT b) : MT (tOr a b) := fun σ H Q Q' hq k => ha σ H _ _ (fun c H1 f => by
  cases c with
  | true => exact hq _ _ f
  | false => exact hb σ H1 Q Q' hq f) k
theorem mt_and {a b : TT} (ha : MT a) (hb : MT b) : MT (tAnd a b) := fun σ H Q Q' hq k => ha σ H _ _ (fun c H1 f => by
  cases c with
  | true => exact hb σ H1 Q Q' hq f
  | false => exact hq _ _ f) k
structure WInv (H : Hp) (l : Addr) (n m : Int) (w : Str) (ps : List Pr) (q : Pr) : Prop where
  at_ : PairsAt H l (ps ++ [q])
  st : stepsB w (ps ++ [q]) = true
  inn : (ps ++ [q]).all (inB n m) = true
  fst : ∀ f,(ps ++ [q]).head? = some f → f.a = 0 ∧ f.b = 1 ∧ (w ≠ wPart → f.c = 0 ∧ f.d = 1)
  hop : w = wHops → ∀ r ∈ ps ++ [q],r.b = 1 ∧ r.d = 1
theorem steps_snoc {w : Str} {ps : List Pr} {q r : Pr} (h : stepsB w (ps ++ [q]) = true) (h2 : stepB w q r = true) : stepsB w (ps ++ [q] ++ [r]) = true := by
  rw [steps_iff] at h ⊢
  intro j u v eu ev
  have hv := (List.getElem?_eq_some_iff.mp ev).1
  rw [List.length_append,List.length_append] at hv
  simp only [List.length_cons,List.length_nil] at hv
  by_cases hj : j + 1 < ps.length + 1
  · rw [List.getElem?_append_left (by rw [List.length_append]; simp only [List.length_cons,List.length_nil]; omega)] at eu ev
    exact h j u v eu ev
  · have ej : j = ps.length := by omega
    subst ej
    rw [List.getElem?_append_left (by simp),List.getElem?_append_right (Nat.le_refl _),Nat.sub_self] at eu
    rw [List.getElem?_append_right (by simp)] at ev
    simp at ev
    cases eu
    subst ev
    exact h2
theorem head_snoc {ps : List Pr} {q r f : Pr} (h : (ps ++ [q] ++ [r]).head? = some f) : (ps ++ [q]).head? = some f := by
  cases ps with
  | nil => exact h
  | cons a b => exact h
theorem WInv.step {H H2 H3 : Hp} {l : Addr} {n m : Int} {w : Str} {ps : List Pr} {q r : Pr} (W : WInv H l n m w ps q) (s : SameT H H2) (u : Upd H2 H3 l (prs (ps ++ [q])) (prs (ps ++ [q]) ++ [.ref r.p])) (pr : PrAt H2 r) (hs : stepB w q r = true) (hi : inB n m r = true) (hh : w = wHops → r.b = 1 ∧ r.d = 1) : WInv H3 l n m w (ps ++ [q]) r := by
  refine ⟨⟨by rw [u.now]; unfold prs; rw [List.map_append (l₁ := ps ++ [q])]; rfl,fun z hz => ?_⟩,steps_snoc W.st hs,by rw [List.all_append,W.inn,Bool.true_and]; simp [hi],fun f hf => W.fst f (head_snoc hf),fun z x hx => ?_⟩
  · rcases List.mem_append.mp hz with hz | hz
    · exact ((W.at_.pr z hz).t s).t u.t
    · rw [List.mem_singleton.mp hz]
      exact pr.t u.t
  · rcases List.mem_append.mp hx with hx | hx
    · exact W.hop z x hx
    · rw [List.mem_singleton.mp hx]
      exact hh z
structure GoodW (n m : Int) (w : Str) (ps : List Pr) : Prop where
  walk : walkB n m w ps = true
  hop : w = wHops → ∀ r ∈ ps,r.b = 1 ∧ r.d = 1
theorem getLast_snoc {ps : List Pr} {q : Pr} (h : ps ++ [q] ≠ []) : (ps ++ [q]).getLast h = q := by simp
theorem WInv.good {H : Hp} {l : Addr} {n m : Int} {w : Str} {ps : List Pr} {q : Pr} (W : WInv H l n m w ps q) (hx : q.a = n ∧ q.b = 1) (hy : w = wPart ∨ (q.c = m ∧ q.d = 1)) : GoodW n m w (ps ++ [q]) := by
  refine ⟨?_,W.hop⟩
  have hne : ps ++ [q] ≠ [] := by simp
  have key : ∀ (xs : List Pr) (h : xs ≠ []),xs.all (inB n m) = true → stepsB w xs = true → (∀ f,xs.head? = some f → f.a = 0 ∧ f.b = 1 ∧ (w ≠ wPart → f.c = 0 ∧ f.d = 1)) → ((xs.getLast h).a = n ∧ (xs.getLast h).b = 1) → (w = wPart ∨ ((xs.getLast h).c = m ∧ (xs.getLast h).d = 1)) → walkB n m w xs = true := by
    intro xs h h1 h2 h3 h4 h5
    match xs,h,h1,h2,h3,h4,h5 with
    | f :: r,h,h1,h2,h3,h4,h5 =>
      rw [walkB_cons,h1,h2,Bool.true_and,Bool.and_true]
      obtain ⟨f1,f2,f3⟩ := h3 f rfl
      unfold endsB isP
      rw [f1,f2,h4.1,h4.2]
      simp only [decide_true,Bool.and_self,if_true]
      by_cases hw : w = wPart
      · rw [if_pos hw]
      · rw [if_neg hw]
        obtain ⟨g1,g2⟩ := f3 hw
        rcases h5 with h5 | ⟨h5,h6⟩
        · exact absurd h5 hw
        · rw [g1,g2,h5,h6]
          simp
  exact key _ hne W.inn W.st W.fst (by rw [getLast_snoc]; exact hx) (by rw [getLast_snoc]; exact hy)
def muP (n : Int) (H : Hp) (z : V) : Nat := match z with
  | .ref p => match H p with
    | some (.tup [.int t,.int b]) => (n - t / b).toNat
    | _ => 0
  | _ => 0
def spDWalk : Sp := fun vs H Q _ => ∃ (p : Addr) (n m k : Int) (w : Str),vs = [.ref p,.int n,.int m,.str w] ∧ Pot H p k ∧ k ≤ 400000 ∧ (0 ≤ n ∧ n ≤ 20) ∧ (0 ≤ m ∧ m ≤ 20) ∧ ∀ (l : Addr) (ps : List Pr) (H' : Hp),PairsAt H' l ps → GoodW n m w ps → ps.length ≤ 60 → H l = none → But p H H' → Pot H' p (k + 500) → Q (.ref l) H'
theorem Dp.pr {H : Hp} {pp zx zy : Addr} {t b c d n m : Int} {w : Str} (e : H pp = some (.tup [.ref zx,.ref zy])) (dx : Dp H zx t b n w) (dy : Dp H zy c d m w) : PrAt H ⟨pp,zx,zy,t,b,c,d⟩ ∧ inB n m ⟨pp,zx,zy,t,b,c,d⟩ = true ∧ (w = wHops → b = 1 ∧ d = 1) := by
  refine ⟨⟨e,dx.at_,dy.at_,dx.low,dy.low,dx.n0,dy.n0,bits_le dx.bt (by decide),bits_le dx.bb (by decide),bits_le dy.bt (by decide),bits_le dy.bb (by decide)⟩,?_,fun z => ⟨dx.hop z,dy.hop z⟩⟩
  unfold inB
  rw [decide_eq_true dx.n1,decide_eq_true dy.n1]
  rfl
theorem S_law_drawn_walk : FnScope ["pot","n","m","way","x","y","walk","turn"] ["pot","n","m","way"] (defScope (top 118)) := ⟨rfl,rfl,rfl,by decide +kernel,rfl,by decide +kernel,by decide +kernel⟩
theorem fn_law_drawn_walk (D_law_drawn_walk : Df K mg "_law_drawn_walk" (top 118)) (F_law_take : Fn P w K mg base "_law_take" ["pot","size"] 1 Dr.spTk) (F_law_any : Fn P w K mg base "_law_any" ["pot","last","way"] 4 spAny) (F_law_ahead : Fn P w K mg base "_law_ahead" ["pot","place","last","way"] 4 spAhead) (F_law_home : Fn P w K mg base "_law_home" ["place","last"] 1 spHome) (T : Txt mg) : Fn P w K mg base "_law_drawn_walk" ["pot","n","m","way"] 5 spDWalk := by
  refine D_law_drawn_walk.fn S_law_drawn_walk (fun _ _ _ _ _ _ us hl => by obtain ⟨_,_,_,_,rfl⟩ := len4 hl; rfl) (fun vs H Q E h => ?_) (fun f cdv A outer s H vs Q E hr h => ?_)
  · obtain ⟨p,n,m,k,wy,rfl,_⟩ := h
    rfl
  · obtain ⟨p,n,m,k,wy,rfl,pt,hk,⟨hn0,hn1⟩,⟨hm0,hm1⟩,q⟩ := h
    have R : ∃ u,PSs (cxOf CX0 P w K mg base ["pot","n","m","way","x","y","walk","turn"] "_law_drawn_walk" (defScope (top 118)) f cdv A outer s H E).nox ((defBody (top 118)).drop 3) u ∧ ∀ (zx zy : Addr) (c d : Int) (H1 : Hp),Dp H1 zx 0 1 n wy → Dp H1 zy c d m wy → (wy ≠ wPart → c = 0 ∧ d = 1) → But p H H1 → Pot H1 p (k + 20) → u { nx := fun _ H' => Q .non H',rt := Q } [some (.ref p),some (.int n),some (.int m),some (.str wy),some (.ref zx),some (.ref zy),none,none] H1 := by
      refine ⟨_,(pss_cons (ps_set (i := 6) S_law_drawn_walk.nd rfl (Or.inl rfl) (@pe_lstA _ _ _ _ (@pa_cons _ _ _ _ _ (@pe_tupA _ _ _ _ _ (@pa_cons _ _ _ _ _ (pv 4) (@pa_cons _ _ _ _ _ (pv 5) pa_nil (by rfl)) (by rfl))) pa_nil (by rfl)))) (pss_cons (ps_for PassesOwn.never rfl (pi_range1 rfl T.z_range (pa_cons (pe_fn F_law_take (hr.mono (by decide)) (by rfl) (pa_cons (pv 0) (pa_cons pe_int pa_nil))) pa_nil)) (pg_name (i := 7) S_law_drawn_walk.nd rfl (Or.inl rfl)) (pss_cons (ps_set (i := 4) S_law_drawn_walk.nd rfl (Or.inl rfl) (pe_fn F_law_ahead (hr.mono (by decide)) (by rfl) (pa_cons (pv 0) (pa_cons (pv 4) (pa_cons (pv 1) (pa_cons (pv 3) pa_nil)))))) (pss_cons (ps_set (i := 5) S_law_drawn_walk.nd rfl (Or.inl rfl) (pe_fn F_law_ahead (hr.mono (by decide)) (by rfl) (pa_cons (pv 0) (pa_cons (pv 5) (pa_cons (pv 2) (pa_cons (pv 3) pa_nil)))))) (pss_one (ps_expr (pe_bm PySem.F.plainAttrs_list PySem.F.slot_list_append PySem.F.type_list_append mt_appendA (pv 6) (pa_cons (pe_tupA (pa_cons (pv 4) (pa_cons (pv 5) pa_nil))) pa_nil))))))) (pss_cons (ps_while PassesOwn.never (pw_or (pt_cmpR (op_neI hr.units0) (pv 4) (pe_tupA (pa_cons (pv 1) (pa_cons pe_int pa_nil))) (nomark _)) (pw_or1 (pw_and (pt_cmpR (op_neI hr.units0) (pv 5) (pe_tupA (pa_cons (pv 2) (pa_cons pe_int pa_nil))) (nomark _)) (pw_and1 (pt_cmpR op_ne (pv 3) pe_str (nomark _)))).pt)).pt (pss_cons (ps_set (i := 4) S_law_drawn_walk.nd rfl (Or.inl rfl) (pe_fn F_law_home (hr.mono (by decide)) (by rfl) (pa_cons (pv 4) (pa_cons (pv 1) pa_nil)))) (pss_cons (ps_set (i := 5) S_law_drawn_walk.nd rfl (Or.inl rfl) (pe_fn F_law_home (hr.mono (by decide)) (by rfl) (pa_cons (pv 5) (pa_cons (pv 2) pa_nil)))) (pss_one (ps_expr (pe_bm PySem.F.plainAttrs_list PySem.F.slot_list_append PySem.F.type_list_append mt_appendA (pv 6) (pa_cons (pe_tupA (pa_cons (pv 4) (pa_cons (pv 5) pa_nil))) pa_nil))))))) (pss_one (ps_ret (pv 6)))))),fun zx zy c d H1 dx dy hcd b1 p1 => ?_⟩
      refine ⟨_,rfl,_,rfl,sz (by simp),fun pp H2 s2 f2 n2 => ?_⟩
      refine ⟨sz (by simp),fun l H3 s3 f3 n3 => ?_⟩
      have p3 := (p1.same s2).same s3
      have npl := Pot.ne (p1.same s2) n3
      have nl : H l = none := b1.none npl (s2.free n3)
      obtain ⟨pr0,in0,hp0⟩ := Dp.pr (s3 _ _ f2) ((dx.t' s2.t).t' s3.t) ((dy.t' s2.t).t' s3.t)
      have b3 : But p H H3 := b1.trans ((But.of s2).trans (But.of s3))
      have W3 : WInv H3 l n m wy [] ⟨pp,zx,zy,0,1,c,d⟩ := ⟨⟨f3,fun z hz => by rw [List.mem_singleton.mp hz]; exact pr0⟩,rfl,by simp [in0],fun f hf => by cases hf; exact ⟨rfl,rfl,hcd⟩,fun z r hr => by rw [List.mem_singleton.mp hr]; exact hp0 z⟩
      refine ⟨_,rfl,p,_,_,rfl,p3,by omega,⟨by decide,by decide⟩,fun r4 H4 a4 b4' b4 p4 => ?_⟩
      have upW : ∀ {Ha Hb : Hp} {ps : List Pr} {qq : Pr} {ka : Int},WInv Ha l n m wy ps qq → But p Ha Hb → Pot Ha p ka → WInv Hb l n m wy ps qq := fun W b pa => ⟨⟨b _ _ npl W.at_.lst,fun z hz => (W.at_.pr z hz).t (b.t pa)⟩,W.st,W.inn,W.fst,W.hop⟩
      refine ⟨_,rfl,by omega,by omega,?_⟩
      refine for_range (n := r4.toNat) (lo := 0) (fun i σ H5 => ∃ (zx zy : Addr) (a b c d : Int) (ps : List Pr) (pp : Addr) (z7 : Option V),σ = [some (.ref p),some (.int n),some (.int m),some (.str wy),some (.ref zx),some (.ref zy),some (.ref l),z7] ∧ WInv H5 l n m wy ps ⟨pp,zx,zy,a,b,c,d⟩ ∧ Dp H5 zx a b n wy ∧ Dp H5 zy c d m wy ∧ ps.length = i ∧ But p H H5 ∧ Pot H5 p (k + 30 + 40 * (i : Int)))
        ⟨zx,zy,0,1,c,d,[],pp,_,rfl,upW W3 b4 p3,((dx.t' s2.t).t' s3.t).t' (b4.t p3),((dy.t' s2.t).t' s3.t).t' (b4.t p3),rfl,b3.trans b4,p4.mono (by omega)⟩ ?_ ?_
      · rintro i σ H5 hi ⟨zx,zy,a,b,c,d,ps,pp,z7,rfl,W5,dx5,dy5,hl,b5,p5⟩
        refine ⟨_,rfl,_,rfl,_,rfl,_,rfl,p,zx,a,b,n,_,wy,rfl,p5,by omega,⟨hn0,by omega⟩,dx5,fun zx' a' b' H6 dx6 g6 b6 p6 => ?_⟩
        have dy6 := dy5.t' (b6.t p5)
        refine ⟨_,rfl,_,rfl,_,rfl,_,rfl,p,zy,c,d,m,_,wy,rfl,p6,by omega,⟨hm0,by omega⟩,dy6,fun zy' c' d' H7 dy7 g7 b7 p7 => ?_⟩
        have dx7 := dx6.t' (b7.t p6)
        have W7 := upW (upW W5 b6 p5) b7 p6
        refine ⟨_,rfl,.inl ⟨rfl,_,SqL.of W7.at_.lst⟩,_,rfl,_,rfl,sz (by simp),fun pp' H8 s8 f8 n8 => ?_⟩
        obtain ⟨pr',in',hp'⟩ := Dp.pr f8 (dx7.t' s8.t) (dy7.t' s8.t)
        refine ⟨l,_,_,rfl,rfl,s8 _ _ W7.at_.lst,small1000 (by rw [prs_len,List.length_append]; simp only [List.length_cons,List.length_nil]; omega),fun H9 u => ?_⟩
        refine ⟨zx',zy',a',b',c',d',ps ++ [⟨pp,zx,zy,a,b,c,d⟩],pp',_,rfl,W7.step s8.t u pr' (by unfold stepB; rw [g6,g7]; rfl) in' hp',(dx7.t' s8.t).t' u.t,(dy7.t' s8.t).t' u.t,by simp [hl],fun b o nb e => ?_,?_⟩
        · exact u.at (fun z => by subst z; rw [nl] at e; cases e) (s8 _ _ (b7 b o nb (b6 b o nb (b5 b o nb e))))
        · obtain ⟨x,y,z,ep,rest⟩ := (p7.same s8).mono (k' := k + 30 + 40 * ((i + 1 : Nat) : Int)) (by omega)
          exact ⟨x,y,z,u.at (Ne.symm npl) ep,rest⟩
      · rintro σ H5 ⟨zx,zy,a,b,c,d,ps,pp,z7,rfl,W5,dx5,dy5,hl,b5,p5⟩
        refine while_by (fun σ H6 => ∃ (zx zy : Addr) (a b c d : Int) (ps : List Pr) (pp : Addr),σ = [some (.ref p),some (.int n),some (.int m),some (.str wy),some (.ref zx),some (.ref zy),some (.ref l),z7] ∧ WInv H6 l n m wy ps ⟨pp,zx,zy,a,b,c,d⟩ ∧ Dp H6 zx a b n wy ∧ Dp H6 zy c d m wy ∧ (ps.length : Int) + (n - a / b) + (m - c / d) ≤ 8 + n + m ∧ But p H H6 ∧ Pot H6 p (k + 400))
          (fun σ H6 => match σ with | [_,_,_,_,some zx,some zy,_,_] => muP n H6 zx + muP m H6 zy | _ => 0)
          ⟨zx,zy,a,b,c,d,ps,pp,rfl,W5,dx5,dy5,by have := fl_nn dx5.low.pos dx5.n0; have := fl_nn dy5.low.pos dy5.n0; omega,b5,p5.mono (by omega)⟩ ?_ ?_
        · rintro σ H6 ⟨zx,zy,a,b,c,d,ps,pp,rfl,W6,dx6,dy6,hl6,b6,p6⟩
          have fx0 := fl_nn dx6.low.pos dx6.n0
          have fx1 := fl_le_n dx6.low.pos dx6.n1
          have fy0 := fl_nn dy6.low.pos dy6.n0
          have fy1 := fl_le_n dy6.low.pos dy6.n1
          have mu6 : ∀ {Ha : Hp} {z : Addr} {t b n' : Int},Ha z = some (.tup [.int t,.int b]) → muP n' Ha (.ref z) = (n' - t / b).toNat := fun e => by simp only [muP,e]
          have turn : ∀ (H7 : Hp),Same H6 H7 → (a / b < n ∨ c / d < m) → (tSeq (tAsg (tCall spHome [] E0 (tCons (tVar 4) (tCons (tVar 1) tNil))) (gName 4)) (tSeq (tAsg (tCall spHome [] E0 (tCons (tVar 5) (tCons (tVar 2) tNil))) (gName 5)) (tDrop (tBM K "list" rAppendA (tVar 6) (tCons (tTupA (tCons (tVar 4) (tCons (tVar 5) tNil))) tNil)))))
              { nx := fun σ' H' => (∃ (zx zy : Addr) (a b c d : Int) (ps : List Pr) (pp : Addr),σ' = [some (.ref p),some (.int n),some (.int m),some (.str wy),some (.ref zx),some (.ref zy),some (.ref l),z7] ∧ WInv H' l n m wy ps ⟨pp,zx,zy,a,b,c,d⟩ ∧ Dp H' zx a b n wy ∧ Dp H' zy c d m wy ∧ (ps.length : Int) + (n - a / b) + (m - c / d) ≤ 8 + n + m ∧ But p H H' ∧ Pot H' p (k + 400)) ∧ (match σ' with | [_,_,_,_,some zx,some zy,_,_] => muP n H' zx + muP m H' zy | _ => 0) < muP n H6 (.ref zx) + muP m H6 (.ref zy),rt := Q } [some (.ref p),some (.int n),some (.int m),some (.str wy),some (.ref zx),some (.ref zy),some (.ref l),z7] H7 := by
            intro H7 s7 hlt
            refine ⟨_,rfl,_,rfl,zx,a,b,n,wy,rfl,⟨hn0,by omega⟩,dx6.t' s7.t,fun zx' H8 dx8 g8 s8 => ?_⟩
            refine ⟨_,rfl,_,rfl,zy,c,d,m,wy,rfl,⟨hm0,by omega⟩,(dy6.t' s7.t).t' s8.t,fun zy' H9 dy9 g9 s9 => ?_⟩
            have S9 : Same H6 H9 := s7.trans (s8.trans s9)
            refine ⟨_,rfl,.inl ⟨rfl,_,SqL.of (S9 _ _ W6.at_.lst)⟩,_,rfl,_,rfl,sz (by simp),fun pp' H10 s10 f10 n10 => ?_⟩
            have S10 := S9.trans s10
            have dx10 := (dx8.t' s9.t).t' s10.t
            have dy10 := dy9.t' s10.t
            obtain ⟨pr',in',hp'⟩ := Dp.pr f10 dx10 dy10
            refine ⟨l,_,_,rfl,rfl,S10 _ _ W6.at_.lst,small1000 (by rw [prs_len,List.length_append]; simp only [List.length_cons,List.length_nil]; omega),fun H11 u => ?_⟩
            have dx11 := dx10.t' u.t
            have dy11 := dy10.t' u.t
            have hx : homeT a b n / 1 = homeT a b n := Int.ediv_one _
            have hy : homeT c d m / 1 = homeT c d m := Int.ediv_one _
            have ux : homeT a b n = a / b + 1 ∨ (homeT a b n = n ∧ a / b = n) := by unfold homeT; split <;> omega
            have uy : homeT c d m = c / d + 1 ∨ (homeT c d m = m ∧ c / d = m) := by unfold homeT; split <;> omega
            refine ⟨⟨zx',zy',homeT a b n,1,homeT c d m,1,ps ++ [⟨pp,zx,zy,a,b,c,d⟩],pp',rfl,W6.step S10.t u pr' (by unfold stepB; rw [g8,g9]; rfl) in' hp',dx11,dy11,?_,fun b o nb e => ?_,?_⟩,?_⟩
            · rw [hx,hy,List.length_append]
              simp only [List.length_cons,List.length_nil]
              omega
            · exact u.at (fun z => by subst z; rw [nl] at e; cases e) (S10 _ _ (b6 b o nb e))
            · obtain ⟨x,y,z,ep,rest⟩ := p6.same S10
              exact ⟨x,y,z,u.at (Ne.symm npl) ep,rest⟩
            · show muP n H11 (.ref zx') + muP m H11 (.ref zy') < _
              rw [mu6 dx11.at_,mu6 dy11.at_,mu6 dx6.at_,mu6 dy6.at_,hx,hy]
              omega
          have fin : ∀ (H7 : Hp),Same H6 H7 → (a = n ∧ b = 1) → (wy = wPart ∨ (c = m ∧ d = 1)) → (tRet (tVar 6)) { nx := fun _ H' => Q .non H',rt := Q } [some (.ref p),some (.int n),some (.int m),some (.str wy),some (.ref zx),some (.ref zy),some (.ref l),z7] H7 := fun H7 s7 hx hy =>
            ⟨_,rfl,q l _ H7 (W6.at_.mono s7) (W6.good hx hy) (by rw [List.length_append]; simp only [List.length_cons,List.length_nil]; omega) nl (b6.trans (But.of s7)) ((p6.same s7).mono (by omega))⟩
          have full : ∀ {t b n' : Int},Low t b → t ≤ n' * b → 0 ≤ t → decide ([t,b] = [n',1]) = false → t / b < n' := fun {t b n'} lw h1 h0 hc => by
            have hle := fl_le_n lw.pos h1
            by_cases e : t / b = n'
            · obtain ⟨rfl,rfl⟩ := fl_full lw h1 e
              simp at hc
            · omega
          refine ⟨_,rfl,_,rfl,sz (by simp),fun t1 H7 s7 g7 _ => ?_⟩
          refine ⟨zx,t1,[a,b],[n,1],rfl,rfl,SqT.of (s7 _ _ dx6.at_),SqT.of g7,_,rfl,?_⟩
          show if (!decide ([a,b] = [n,1])) = true then _ else _
          refine ite3 (fun c1 => ?_) (fun c1 => ?_)
          · exact turn H7 s7 (.inl (full dx6.low dx6.n1 dx6.n0 (by simpa only [Bool.not_eq_true'] using c1)))
          have ex : a = n ∧ b = 1 := by simpa using c1
          refine ⟨_,rfl,_,rfl,sz (by simp),fun t2 H8 s8 g8 _ => ?_⟩
          refine ⟨zy,t2,[c,d],[m,1],rfl,rfl,SqT.of (s8 _ _ (s7 _ _ dy6.at_)),SqT.of g8,_,rfl,?_⟩
          show if (!decide ([c,d] = [m,1])) = true then _ else _
          refine ite3 (fun c2 => ?_) (fun c2 => ?_)
          · refine ⟨_,rfl,rfl,_,rfl,ite3 (fun c3 => ?_) (fun c3 => ?_)⟩
            · exact turn H8 (s7.trans s8) (.inr (full dy6.low dy6.n1 dy6.n0 (by simpa only [Bool.not_eq_true'] using c2)))
            · have ew : wy = wPart := by
                have h3' : decide (V.str wy = V.str (Str.ofString "part")) = true := by simpa only [Bool.not_eq_true',Bool.not_eq_false',Bool.not_eq_false] using c3
                have := dec_t h3'
                cases this
                rfl
              exact fin H8 (s7.trans s8) ex (.inl ew)
          · have ey : c = m ∧ d = 1 := by simpa using c2
            exact fin H8 (s7.trans s8) ex (.inr ey)
        · exact mt_or (mt_test (me_op mr_eqI me_var (me_tupA (ma_cons me_var (ma_cons me_c ma_nil))))) (mt_and (mt_test (me_op mr_eqI me_var (me_tupA (ma_cons me_var (ma_cons me_c ma_nil))))) (mt_test (me_op mr_ne me_var me_c)))
    obtain ⟨u,hu,ru⟩ := R
    refine ⟨_,(pss_cons (ps_set (i := 4) S_law_drawn_walk.nd rfl (Or.inl rfl) (pe_tupA (pa_cons pe_int (pa_cons pe_int pa_nil)))) (pss_cons (ps_set (i := 5) S_law_drawn_walk.nd rfl (Or.inl rfl) (pe_tupA (pa_cons pe_int (pa_cons pe_int pa_nil)))) (pss_cons (ps_if (pt_cmpR op_eq (pv 3) pe_str (nomark _)) (pss_one (ps_set (i := 5) S_law_drawn_walk.nd rfl (Or.inl rfl) (pe_fn F_law_any (hr.mono (by decide)) (by rfl) (pa_cons (pv 0) (pa_cons (pv 2) (pa_cons (pv 3) pa_nil)))))) pss_nil) hu))),?_⟩
    refine ⟨sz (by simp),fun zx H1 s1 f1 n1 => ?_⟩
    refine ⟨sz (by simp),fun zy H2 s2 f2 n2 => ?_⟩
    have dz : ∀ {Ha : Hp} {z : Addr} {n' : Int},0 ≤ n' → Ha z = some (.tup [.int 0,.int 1]) → Dp Ha z 0 1 n' wy := fun h e => ⟨e,⟨by decide,by decide⟩,by decide,by omega,by decide,by decide,fun _ => rfl⟩
    have p2 := (pt.same s1).same s2
    have b2 : But p H H2 := (But.of s1).trans (But.of s2)
    refine ⟨_,rfl,rfl,_,rfl,ite3 (fun h1 => ?_) (fun h1 => ?_)⟩
    · have ew : wy = wPart := by
        have := dec_t h1
        cases this
        rfl
      refine ⟨_,rfl,_,rfl,_,rfl,p,m,_,wy,rfl,p2,by omega,⟨hm0,by omega⟩,fun z t b H3 d3 b3 p3 => ?_⟩
      exact ru zx z t b H3 ((dz hn0 (s2 _ _ f1)).t' (b3.t p2)) d3 (fun z => absurd ew z) (b2.trans b3) p3
    · exact ru zx zy 0 1 H2 (dz hn0 (s2 _ _ f1)) (dz hm0 f2) (fun _ => ⟨rfl,rfl⟩) b2 (p2.mono (by omega))
def spLW : Sp := fun vs H Q _ => ∃ a : Int,vs = [.int a] ∧ Q (.bl true) H
def spLIR : Sp := fun vs H Q _ => ∃ (p : Addr) (a b : Int),vs = [.ref p] ∧ H p = some (.tup [.int a,.int b]) ∧ Low a b ∧ Q (.bl true) H
def spLIP : Sp := fun vs H Q _ => ∃ (l p : Addr) (xs : List V) (a b : Int),vs = [.ref l,.ref p] ∧ H l = some (.lst xs) ∧ xs.length ≤ 100 ∧ H p = some (.tup [.int a,.int b]) ∧ Low a b ∧ 0 ≤ a ∧ Q (.bl (decide (a ≤ ((xs.length : Int) - 1) * b))) H
def spLPs : Sp := fun vs H Q _ => ∃ (l1 l2 l : Addr) (xs1 xs2 : List V) (ps : List Pr),vs = [.ref l1,.ref l2,.ref l] ∧ (H l1 = some (.lst xs1) ∧ xs1.length ≤ 100) ∧ (H l2 = some (.lst xs2) ∧ xs2.length ≤ 100) ∧ PairsAt H l ps ∧ ∀ H',Same H H' → Q (.bl (!ps.isEmpty && ps.all (inB ((xs1.length : Int) - 1) ((xs2.length : Int) - 1)))) H'
def spLWalk : Sp := fun vs H Q _ => ∃ (l1 l2 l : Addr) (xs1 xs2 : List V) (ps : List Pr) (wy : Str),vs = [.ref l1,.ref l2,.ref l,.str wy] ∧ (H l1 = some (.lst xs1) ∧ xs1.length ≤ 100) ∧ (H l2 = some (.lst xs2) ∧ xs2.length ≤ 100) ∧ PairsAt H l ps ∧ ps.length < 900 ∧ ∀ H',Same H H' → Q (.bl (walkB ((xs1.length : Int) - 1) ((xs2.length : Int) - 1) wy ps)) H'
def dPr (q : Pr) : D := .tup [.tup [.int q.a,.int q.b],.tup [.int q.c,.int q.d]]
theorem pr_rp {H : Hp} {q : Pr} (h : PrAt H q) : Rp H 8 (.ref q.p) (dPr q) := Rp.t2 h.p_ (Rp.t2 h.x_ .int .int) (Rp.t2 h.y_ .int .int)
theorem prs_rp {H : Hp} {l : Addr} {ps : List Pr} (P : PairsAt H l ps) : Rp H 9 (.ref l) (.lst (ps.map dPr)) := .lst P.lst (by rw [prs_len,List.length_map]) fun j x d a b => by
  obtain ⟨q,hq,rfl⟩ := prs_get a
  rw [List.getElem?_map,hq] at b
  cases b
  exact pr_rp (P.pr q (List.mem_of_getElem? hq))
theorem S_law_whole : FnScope ["found"] ["found"] (defScope (top 104)) := ⟨rfl,rfl,rfl,by decide +kernel,rfl,by decide +kernel,by decide +kernel⟩
theorem fn_law_whole (D_law_whole : Df K mg "_law_whole" (top 104)) (T : Txt mg) : Fn P w K mg base "_law_whole" ["found"] 1 spLW := by
  refine D_law_whole.fn S_law_whole (fun _ _ _ _ _ _ us hl => by obtain ⟨_,rfl⟩ := len1 hl; rfl) (fun vs H Q E h => ?_) (fun f cdv A outer s H vs Q E hr h => ?_)
  · obtain ⟨a,rfl,_⟩ := h
    rfl
  · obtain ⟨a,rfl,q⟩ := h
    refine ⟨_,(pss_one (ps_ret (pe_and (pe_callB call_isinst (by rfl) T.z_isinstance bt_isinstance (pa_cons (pv 0) (pa_cons (pe_ty T.z_int bt_int) pa_nil))) (pe_one (pe_not (pe_callB call_isinst (by rfl) T.z_isinstance bt_isinstance (pa_cons (pv 0) (pa_cons (pe_ty T.z_bool bt_bool) pa_nil)))))))),?_⟩
    refine ⟨_,rfl,_,_,"int",rfl,.int a,nice_int,_,rfl,iteTrue (by decide) ?_⟩
    refine ⟨_,rfl,_,_,"bool",rfl,.int a,nice_bool,_,rfl,?_⟩
    exact q
theorem S_law_is_ratio : FnScope ["thing"] ["thing"] (defScope (top 105)) := ⟨rfl,rfl,rfl,by decide +kernel,rfl,by decide +kernel,by decide +kernel⟩
theorem fn_law_is_ratio (D_law_is_ratio : Df K mg "_law_is_ratio" (top 105)) (F_law_whole : Fn P w K mg base "_law_whole" ["found"] 1 spLW) (F_law_divisor : Fn P w K mg base "_law_divisor" ["one","other"] 1 spDiv) (T : Txt mg) : Fn P w K mg base "_law_is_ratio" ["thing"] 2 spLIR := by
  refine D_law_is_ratio.fn S_law_is_ratio (fun _ _ _ _ _ _ us hl => by obtain ⟨_,rfl⟩ := len1 hl; rfl) (fun vs H Q E h => ?_) (fun f cdv A outer s H vs Q E hr h => ?_)
  · obtain ⟨p,a,b,rfl,_⟩ := h
    rfl
  · obtain ⟨p,a,b,rfl,e,lw,q⟩ := h
    refine ⟨_,(pss_cons (ps_if (pw_or (pt_not (pt_val (pe_callB call_isinst (by rfl) T.z_isinstance bt_isinstance (pa_cons (pv 0) (pa_cons (pe_ty T.z_tuple bt_tuple) pa_nil))))) (pw_or (pt_cmpR op_ne (pe_callB call_len_seq (by rfl) T.z_len bt_len (pa_cons (pv 0) pa_nil)) pe_int (nomark _)) (pw_or (pt_not (pt_val (pe_fn F_law_whole (hr.mono (by decide)) (by rfl) (pa_cons (pe_ix ix_tup (pv 0) pe_int (fun _ _ => rfl)) pa_nil)))) (pw_or1 (pt_not (pt_val (pe_fn F_law_whole (hr.mono (by decide)) (by rfl) (pa_cons (pe_ix ix_tup (pv 0) pe_int (fun _ _ => rfl)) pa_nil)))))))).pt (pss_one (ps_ret pe_bl)) pss_nil) (pss_one (ps_ret (pe_and (pe_cmpR op_gt (pe_ix ix_tup (pv 0) pe_int (fun _ _ => rfl)) pe_int (nomark _)) (pe_one (pe_cmpR op_eq (pe_fn F_law_divisor (hr.mono (by decide)) (by rfl) (pa_cons (pe_ix ix_tup (pv 0) pe_int (fun _ _ => rfl)) (pa_cons (pe_ix ix_tup (pv 0) pe_int (fun _ _ => rfl)) pa_nil))) pe_int (nomark _))))))),?_⟩
    refine ⟨_,rfl,_,_,"tuple",rfl,.tup e,nice_tuple,_,rfl,iteFalse (by decide) ?_⟩
    refine ⟨_,rfl,p,_,rfl,.inr (SqT.of e),rfl,_,rfl,iteFalse rfl ?_⟩
    refine ⟨_,rfl,p,_,_,_,rfl,rfl,SqT.of e,rfl,a,rfl,_,rfl,iteFalse (by decide) ?_⟩
    refine ⟨_,rfl,p,_,_,_,rfl,rfl,SqT.of e,rfl,b,rfl,_,rfl,iteFalse (by decide) ?_⟩
    have hb : (0 : Int) < b := lw.pos
    refine ⟨_,rfl,p,_,_,_,rfl,rfl,SqT.of e,rfl,_,_,rfl,rfl,_,rfl,iteTrue (decide_eq_true hb) ?_⟩
    refine ⟨_,rfl,p,_,_,_,rfl,rfl,SqT.of e,rfl,_,rfl,p,_,_,_,rfl,rfl,SqT.of e,rfl,a,b,rfl,by omega,rfl,?_⟩
    rw [show (Int.gcd a b : Int) = 1 by rw [lw.one]; rfl,decide_eq_true rfl]
    exact q
theorem S_law_is_place : FnScope ["line","thing"] ["line","thing"] (defScope (top 106)) := ⟨rfl,rfl,rfl,by decide +kernel,rfl,by decide +kernel,by decide +kernel⟩
theorem fn_law_is_place (D_law_is_place : Df K mg "_law_is_place" (top 106)) (F_law_is_ratio : Fn P w K mg base "_law_is_ratio" ["thing"] 2 spLIR) (T : Txt mg) : Fn P w K mg base "_law_is_place" ["line","thing"] 3 spLIP := by
  refine D_law_is_place.fn S_law_is_place (fun _ _ _ _ _ _ us hl => by obtain ⟨_,_,rfl⟩ := len2 hl; rfl) (fun vs H Q E h => ?_) (fun f cdv A outer s H vs Q E hr h => ?_)
  · obtain ⟨l,p,xs,a,b,rfl,_⟩ := h
    rfl
  · obtain ⟨l,p,xs,a,b,rfl,el,hl,e,lw,h0,q⟩ := h
    refine ⟨_,(pss_one (ps_ret (pe_and (pe_fn F_law_is_ratio (hr.mono (by decide)) (by rfl) (pa_cons (pv 1) pa_nil)) (pe_one (pe_chain op_le op_le pe_int (pe_ix ix_tup (pv 1) pe_int (fun _ _ => rfl)) (pe_op op_mulX (pe_op op_sub (pe_callB call_len_seq (by rfl) T.z_len bt_len (pa_cons (pv 0) pa_nil)) pe_int) (pe_ix ix_tup (pv 1) pe_int (fun _ _ => rfl)))))))),?_⟩
    refine ⟨_,rfl,p,a,b,rfl,e,lw,_,rfl,iteTrue rfl ?_⟩
    refine ⟨_,rfl,p,_,_,_,rfl,rfl,SqT.of e,rfl,_,_,rfl,rfl,_,rfl,iteTrue (decide_eq_true h0) ?_⟩
    exact ⟨_,rfl,l,xs,rfl,.inl (SqL.of el),_,_,rfl,rfl,_,rfl,p,_,_,_,rfl,rfl,SqT.of e,rfl,_,_,rfl,rfl,CM.l (lt64s (by omega) (by omega)),_,_,rfl,rfl,q⟩
theorem S_law_near : FnScope ["here","there","low","high"] ["here","there"] (defScope (top 107)) := ⟨rfl,rfl,rfl,by decide +kernel,rfl,by decide +kernel,by decide +kernel⟩
theorem fn_law_near (D_law_near : Df K mg "_law_near" (top 107)) (F_law_below : Fn P w K mg base "_law_below" ["one","other"] 1 spLess) : Fn P w K mg base "_law_near" ["here","there"] 2 (spGo2 shareB) := by
  refine D_law_near.fn S_law_near (fun _ _ _ _ _ _ us hl => by obtain ⟨_,_,rfl⟩ := len2 hl; rfl) (fun vs H Q E h => ?_) (fun f cdv A outer s H vs Q E hr h => ?_)
  · obtain ⟨p,q,a,b,c,d,rfl,_⟩ := h
    rfl
  · obtain ⟨p,q,a,b,c,d,rfl,ep,eq,sa,sc,k⟩ := h
    have y := k H (Same.refl _)
    unfold shareB at y
    have R : ∃ u,PSs (cxOf CX0 P w K mg base ["here","there","low","high"] "_law_near" (defScope (top 107)) f cdv A outer s H E).nox ((defBody (top 107)).drop 3) u ∧ ∀ {lo hi : Addr} {a b c d : Int},H lo = some (.tup [.int a,.int b]) → H hi = some (.tup [.int c,.int d]) → Small a b → Small c d → Q (.bl (!decide ((a / b + 1) * d < c * 1))) H → u { nx := fun _ H' => Q .non H',rt := Q } [some (.ref p),some (.ref q),some (.ref lo),some (.ref hi)] H := by
      refine ⟨_,(pss_one (ps_ret (pe_cmpR op_le (pe_ix ix_tup (pv 3) pe_int (fun _ _ => rfl)) (pe_op op_mulX (pe_op op_add (pe_op op_fdivP (pe_ix ix_tup (pv 2) pe_int (fun _ _ => rfl)) (pe_ix ix_tup (pv 2) pe_int (fun _ _ => rfl))) pe_int) (pe_ix ix_tup (pv 3) pe_int (fun _ _ => rfl))) (nomark _)))),fun {lo hi a b c d} elo ehi sa sc q => ?_⟩
      have bf : bits (a / b + 1) ≤ 1001 := bits_add (bits_ediv sa.pos sa.ba) (bits_le (m := 1) (by decide) (by decide))
      refine ⟨_,rfl,hi,_,_,_,rfl,rfl,SqT.of ehi,rfl,_,rfl,lo,_,_,_,rfl,rfl,SqT.of elo,rfl,_,rfl,lo,_,_,_,rfl,rfl,SqT.of elo,rfl,_,_,rfl,rfl,⟨sa.pos,bits_le sa.bb (by decide)⟩,_,_,rfl,rfl,_,rfl,hi,_,_,_,rfl,rfl,SqT.of ehi,rfl,_,_,rfl,rfl,CM.of bf sc.bb (by decide),_,_,rfl,rfl,?_⟩
      have e : (!decide ((a / b + 1) * d < c * 1)) = decide (c ≤ (a / b + 1) * d) := by
        rw [Int.mul_one,Bool.eq_iff_iff]
        simp
      rw [e] at q
      exact q
    obtain ⟨u,hu,fin⟩ := R
    refine ⟨_,(pss_cons (ps_set (i := 2) S_law_near.nd rfl (Or.inl rfl) (pv 0)) (pss_cons (ps_set (i := 3) S_law_near.nd rfl (Or.inl rfl) (pv 1)) (pss_cons (ps_if (pt_val (pe_fn F_law_below (hr.mono (by decide)) (by rfl) (pa_cons (pv 1) (pa_cons (pv 0) pa_nil)))) (pss_cons (ps_set (i := 2) S_law_near.nd rfl (Or.inl rfl) (pv 1)) (pss_one (ps_set (i := 3) S_law_near.nd rfl (Or.inl rfl) (pv 0)))) pss_nil) hu))),?_⟩
    refine ⟨_,rfl,_,rfl,?_⟩
    refine ⟨_,rfl,_,rfl,q,p,c,d,a,b,rfl,eq,ep,⟨bits_le sc.ba (by decide),bits_le sc.bb (by decide),bits_le sa.ba (by decide),bits_le sa.bb (by decide)⟩,_,rfl,ite3 (fun hc => ?_) (fun hc => ?_)⟩
    · rw [if_pos (dec_t hc)] at y
      exact ⟨_,rfl,_,rfl,fin eq ep sc sa y⟩
    · rw [if_neg (dec_f hc)] at y
      exact fin ep eq sa sc y
theorem S_law_are_pairs : FnScope ["one","other","thing","pair"] ["one","other","thing"] (defScope (top 108)) := ⟨rfl,rfl,rfl,by decide +kernel,rfl,by decide +kernel,by decide +kernel⟩
theorem fn_law_are_pairs (D_law_are_pairs : Df K mg "_law_are_pairs" (top 108)) (F_law_is_place : Fn P w K mg base "_law_is_place" ["line","thing"] 3 spLIP) (T : Txt mg) : Fn P w K mg base "_law_are_pairs" ["one","other","thing"] 4 spLPs := by
  refine D_law_are_pairs.fn S_law_are_pairs (fun _ _ _ _ _ _ us hl => by obtain ⟨_,_,_,rfl⟩ := len3 hl; rfl) (fun vs H Q E h => ?_) (fun f cdv A outer s H vs Q E hr h => ?_)
  · obtain ⟨l1,l2,l,xs1,xs2,ps,rfl,_⟩ := h
    rfl
  · obtain ⟨l1,l2,l,xs1,xs2,ps,rfl,⟨e1,n1⟩,⟨e2,n2⟩,PP,q⟩ := h
    refine ⟨_,(pss_cons (ps_if (pw_or (pt_not (pt_val (pe_callB call_isinst (by rfl) T.z_isinstance bt_isinstance (pa_cons (pv 2) (pa_cons (pe_ty T.z_list bt_list) pa_nil))))) (pw_or1 (pt_cmpR (op_eqD hr.units10) (pv 2) (pe_lstA pa_nil) (nomark _)))).pt (pss_one (ps_ret pe_bl)) pss_nil) (pss_cons (ps_for PassesOwn.never rfl (pi_list (pv 2)) (pg_name (i := 3) S_law_are_pairs.nd rfl (Or.inl rfl)) (pss_cons (ps_if (pw_or (pt_not (pt_val (pe_callB call_isinst (by rfl) T.z_isinstance bt_isinstance (pa_cons (pv 3) (pa_cons (pe_ty T.z_tuple bt_tuple) pa_nil))))) (pw_or1 (pt_cmpR op_ne (pe_callB call_len_seq (by rfl) T.z_len bt_len (pa_cons (pv 3) pa_nil)) pe_int (nomark _)))).pt (pss_one (ps_ret pe_bl)) pss_nil) (pss_one (ps_if (pw_or (pt_not (pt_val (pe_fn F_law_is_place (hr.mono (by decide)) (by rfl) (pa_cons (pv 0) (pa_cons (pe_ix ix_tup (pv 3) pe_int (fun _ _ => rfl)) pa_nil))))) (pw_or1 (pt_not (pt_val (pe_fn F_law_is_place (hr.mono (by decide)) (by rfl) (pa_cons (pv 1) (pa_cons (pe_ix ix_tup (pv 3) pe_int (fun _ _ => rfl)) pa_nil))))))).pt (pss_one (ps_ret pe_bl)) pss_nil)))) (pss_one (ps_ret pe_bl)))),?_⟩
    refine ⟨_,rfl,_,_,"list",rfl,.lst PP.lst,nice_list,_,rfl,iteFalse (by decide) ?_⟩
    refine ⟨_,rfl,sz (by simp),fun le H1 s1 f1 n1' => ?_⟩
    have P1 := PP.mono s1
    refine ⟨_,_,prs_rp P1,Rp.l0 f1,_,rfl,?_⟩
    cases ps with
    | nil => exact iteTrue (by rfl) (q H1 s1)
    | cons f r =>
      refine iteFalse (by rfl) ?_
      refine ⟨_,rfl,l,rfl,⟨_,SqL.of P1.lst⟩,for_list (K := K) (xs := prs (f :: r)) (fun i σ H2 => ∃ z,σ = [some (.ref l1),some (.ref l2),some (.ref l),z] ∧ H2 = H1 ∧ ∀ (j : Nat) u,j < i → (f :: r)[j]? = some u → inB ((xs1.length : Int) - 1) ((xs2.length : Int) - 1) u = true)
        ⟨_,rfl,rfl,fun j u h => absurd h (by omega)⟩ (fun i σ H2 _ ⟨_,_,e,_⟩ => by rw [e]; exact SqL.of P1.lst) ?_ ?_⟩
      · rintro i x σ H2 hx ⟨z,rfl,rfl,hin⟩
        obtain ⟨u,hu,rfl⟩ := prs_get hx
        have pu := P1.pr u (List.mem_of_getElem? hu)
        have bad : inB ((xs1.length : Int) - 1) ((xs2.length : Int) - 1) u = false → Q (.bl false) H2 := fun hb => by
          have y := q H2 s1
          have zz : ((f :: r).all (inB ((xs1.length : Int) - 1) ((xs2.length : Int) - 1))) = false := by
            rw [Bool.eq_false_iff]
            intro w
            rw [List.all_eq_true.mp w u (List.mem_of_getElem? hu)] at hb
            cases hb
          rw [zz,Bool.and_false] at y
          exact y
        refine ⟨_,rfl,_,_,"tuple",rfl,.tup pu.p_,nice_tuple,_,rfl,iteFalse (by decide) ?_⟩
        refine ⟨_,rfl,u.p,_,rfl,.inr (SqT.of pu.p_),rfl,_,rfl,iteFalse rfl ?_⟩
        refine ⟨_,rfl,_,rfl,u.p,_,_,_,rfl,rfl,SqT.of pu.p_,rfl,l1,u.x,_,_,_,rfl,s1 _ _ e1,n1,pu.x_,pu.lx,pu.nx,_,rfl,ite3 (fun h1 => ?_) (fun h1 => ?_)⟩
        · refine bad ?_
          unfold inB
          rw [show decide (u.a ≤ ((xs1.length : Int) - 1) * u.b) = false by simpa only [Bool.not_eq_true'] using h1,Bool.false_and]
        · have h1 : decide (u.a ≤ ((xs1.length : Int) - 1) * u.b) = true := by simpa only [Bool.not_eq_false'] using h1
          refine ⟨_,rfl,_,rfl,u.p,_,_,_,rfl,rfl,SqT.of pu.p_,rfl,l2,u.y,_,_,_,rfl,s1 _ _ e2,n2,pu.y_,pu.ly,pu.ny,_,rfl,ite3 (fun h2 => ?_) (fun h2 => ?_)⟩
          · refine bad ?_
            unfold inB
            rw [show decide (u.c ≤ ((xs2.length : Int) - 1) * u.d) = false by simpa only [Bool.not_eq_true'] using h2,Bool.and_false]
          · have h2 : decide (u.c ≤ ((xs2.length : Int) - 1) * u.d) = true := by simpa only [Bool.not_eq_false'] using h2
            refine ⟨_,rfl,rfl,fun j v hj hv => ?_⟩
            by_cases hji : j = i
            · subst hji
              rw [hu] at hv
              cases hv
              unfold inB
              rw [h1,h2]
              rfl
            · exact hin j v (by omega) hv
      · rintro σ H2 ⟨z,rfl,rfl,hin⟩
        have y := q H2 s1
        have zz : ((f :: r).all (inB ((xs1.length : Int) - 1) ((xs2.length : Int) - 1))) = true := by
          rw [List.all_eq_true]
          intro u hu
          obtain ⟨j,hj,e⟩ := List.getElem_of_mem hu
          exact hin j u (by rw [prs_len]; exact hj) (by rw [List.getElem?_eq_getElem hj,e])
        rw [zz] at y
        exact y
theorem S_law_goes : FnScope ["here","there","way"] ["here","there","way"] (defScope (top 109)) := ⟨rfl,rfl,rfl,by decide +kernel,rfl,by decide +kernel,by decide +kernel⟩
theorem fn_law_goes (D_law_goes : Df K mg "_law_goes" (top 109)) (F_law_below : Fn P w K mg base "_law_below" ["one","other"] 1 spLess) (F_law_near : Fn P w K mg base "_law_near" ["here","there"] 2 (spGo2 shareB)) : Fn P w K mg base "_law_goes" ["here","there","way"] 3 spMay := by
  refine D_law_goes.fn S_law_goes (fun _ _ _ _ _ _ us hl => by obtain ⟨_,_,_,rfl⟩ := len3 hl; rfl) (fun vs H Q E h => ?_) (fun f cdv A outer s H vs Q E hr h => ?_)
  · obtain ⟨p,q,a,b,c,d,wy,rfl,_⟩ := h
    rfl
  · obtain ⟨p,q,a,b,c,d,wy,rfl,ep,eq,sa,sc,k⟩ := h
    refine ⟨_,(pss_cons (ps_if (pt_cmpR op_eq (pv 2) pe_str (nomark _)) (pss_one (ps_ret (pe_and (pe_cmpR op_eq (pe_ix ix_tup (pv 0) pe_int (fun _ _ => rfl)) pe_int (nomark _)) (pe_and (pe_cmpR op_eq (pe_ix ix_tup (pv 1) pe_int (fun _ _ => rfl)) pe_int (nomark _)) (pe_one (pe_cmpR op_in_seq (pe_op op_sub (pe_ix ix_tup (pv 1) pe_int (fun _ _ => rfl)) (pe_ix ix_tup (pv 0) pe_int (fun _ _ => rfl))) (pe_tupA (pa_cons pe_int (pa_cons pe_int pa_nil))) (by rfl))))))) pss_nil) (pss_cons (ps_if (pw_and (pt_cmpR op_ne (pv 2) pe_str (nomark _)) (pw_and1 (pt_val (pe_fn F_law_below (hr.mono (by decide)) (by rfl) (pa_cons (pv 1) (pa_cons (pv 0) pa_nil)))))).pt (pss_one (ps_ret pe_bl)) pss_nil) (pss_one (ps_ret (pe_fn F_law_near (hr.mono (by decide)) (by rfl) (pa_cons (pv 0) (pa_cons (pv 1) pa_nil))))))),?_⟩
    have ds : ∀ {u v : Str} {b : Bool},decide (V.str u = V.str v) = b → decide (u = v) = b := fun {u v b} h => by
      rw [← h,Bool.eq_iff_iff]
      simp
    have di : ∀ i j : Int,decide (V.int i = V.int j) = decide (i = j) := fun i j => by
      rw [Bool.eq_iff_iff]
      simp
    unfold goB at k
    refine ⟨_,rfl,rfl,_,rfl,ite3 (fun h1 => ?_) (fun h1 => ?_)⟩
    · rw [if_pos (show wy = wHops from dec_t (ds h1))] at k
      refine ⟨_,rfl,p,_,_,_,rfl,rfl,SqT.of ep,rfl,rfl,_,rfl,?_⟩
      rw [di]
      refine ite3 (fun h1 => ?_) (fun h1 => ?_)
      · rw [h1,Bool.true_and] at k
        refine ⟨_,rfl,q,_,_,_,rfl,rfl,SqT.of eq,rfl,rfl,_,rfl,?_⟩
        rw [di]
        refine ite3 (fun h2 => ?_) (fun h2 => ?_)
        · rw [h2,Bool.true_and] at k
          refine ⟨_,rfl,q,_,_,_,rfl,rfl,SqT.of eq,rfl,_,rfl,p,_,_,_,rfl,rfl,SqT.of ep,rfl,_,_,rfl,rfl,sz (by simp),fun t H1 s1 g1 _ => ?_⟩
          refine ⟨t,_,rfl,.inr (SqT.of g1),rfl,rfl,?_⟩
          have e : inV (.int (c - a)) [.int 0,.int 1] = (decide (c - a = 0) || decide (c - a = 1)) := by
            show ((0 : Int) == (c - a) || ((1 : Int) == (c - a) || false)) = _
            rw [Bool.eq_iff_iff]
            simp only [Bool.or_eq_true,beq_iff_eq,decide_eq_true_eq,Bool.false_eq_true,or_false]
            omega
          show Q (.bl (inV (.int (c - a)) [.int 0,.int 1])) H1
          rw [e]
          exact k H1 s1
        · have y := k H (Same.refl _)
          rw [h2,Bool.false_and] at y
          exact y
      · have y := k H (Same.refl _)
        rw [h1,Bool.false_and] at y
        exact y
    rw [if_neg (show ¬ wy = wHops from dec_f (ds h1))] at k
    have near : ∀ H1,H1 = H → (∀ H',Same H H' → Q (.bl (shareB a b c d)) H') → spGo2 shareB [.ref p,.ref q] H1 Q E0 := fun H1 e kk => by
      subst e
      exact ⟨p,q,a,b,c,d,rfl,ep,eq,sa,sc,kk⟩
    refine ⟨_,rfl,rfl,_,rfl,ite3 (fun h2 => ?_) (fun h2 => ?_)⟩
    · have h2' : decide (V.str wy = V.str (Str.ofString "free")) = false := by simpa only [Bool.not_eq_true'] using h2
      rw [if_neg (show ¬ wy = wFree from dec_f (ds h2'))] at k
      refine ⟨_,rfl,_,rfl,q,p,c,d,a,b,rfl,eq,ep,⟨bits_le sc.ba (by decide),bits_le sc.bb (by decide),bits_le sa.ba (by decide),bits_le sa.bb (by decide)⟩,_,rfl,ite3 (fun h3 => ?_) (fun h3 => ?_)⟩
      · have y := k H (Same.refl _)
        rw [h3] at y
        exact y
      · rw [h3] at k
        exact ⟨_,rfl,_,rfl,near _ rfl fun H' s' => k H' s'⟩
    · have h2' : decide (V.str wy = V.str (Str.ofString "free")) = true := by simpa only [Bool.not_eq_false'] using h2
      rw [if_pos (show wy = wFree from dec_t (ds h2'))] at k
      exact ⟨_,rfl,_,rfl,near _ rfl k⟩
theorem S_law_is_walk : FnScope ["one","other","thing","way","first","last","pair","later"] ["one","other","thing","way"] (defScope (top 110)) := ⟨rfl,rfl,rfl,by decide +kernel,rfl,by decide +kernel,by decide +kernel⟩
theorem fn_law_is_walk (D_law_is_walk : Df K mg "_law_is_walk" (top 110)) (F_law_are_pairs : Fn P w K mg base "_law_are_pairs" ["one","other","thing"] 4 spLPs) (F_law_goes : Fn P w K mg base "_law_goes" ["here","there","way"] 3 spMay) (T : Txt mg) : Fn P w K mg base "_law_is_walk" ["one","other","thing","way"] 5 spLWalk := by
  refine D_law_is_walk.fn S_law_is_walk (fun _ _ _ _ _ _ us hl => by obtain ⟨_,_,_,_,rfl⟩ := len4 hl; rfl) (fun vs H Q E h => ?_) (fun f cdv A outer s H vs Q E hr h => ?_)
  · obtain ⟨l1,l2,l,xs1,xs2,ps,wy,rfl,_⟩ := h
    rfl
  · obtain ⟨l1,l2,l,xs1,xs2,ps,wy,rfl,⟨e1,n1⟩,⟨e2,n2⟩,PP,hlen,q⟩ := h
    have R : ∃ u,PSs (cxOf CX0 P w K mg base ["one","other","thing","way","first","last","pair","later"] "_law_is_walk" (defScope (top 110)) f cdv A outer s H E).nox ((defBody (top 110)).drop 5) u ∧ ∀ (f z : Pr) (r : List Pr) (H3 : Hp),PairsAt H3 l (f :: r) → (∀ H',Same H3 H' → Q (.bl (stepsB wy (f :: r))) H') → u { nx := fun _ H' => Q .non H',rt := Q } [some (.ref l1),some (.ref l2),some (.ref l),some (.str wy),some (.ref f.p),some (.ref z.p),none,none] H3 := by
      refine ⟨_,(pss_cons (ps_for PassesOwn.never rfl (pi_zip rfl T.z_zip (pa_cons (pv 2) (pa_cons (pe_slice sl_listA (pv 2) (po_some pe_int) po_none) pa_nil))) (pg_tup rfl (pgs_cons (pg_name (i := 6) S_law_is_walk.nd rfl (Or.inl rfl)) (pgs_cons (pg_name (i := 7) S_law_is_walk.nd rfl (Or.inl rfl)) pgs_nil))) (pss_one (ps_if (pw_or (pt_not (pt_val (pe_fn F_law_goes (hr.mono (by decide)) (by rfl) (pa_cons (pe_ix ix_tup (pv 6) pe_int (fun _ _ => rfl)) (pa_cons (pe_ix ix_tup (pv 7) pe_int (fun _ _ => rfl)) (pa_cons (pv 3) pa_nil)))))) (pw_or1 (pt_not (pt_val (pe_fn F_law_goes (hr.mono (by decide)) (by rfl) (pa_cons (pe_ix ix_tup (pv 6) pe_int (fun _ _ => rfl)) (pa_cons (pe_ix ix_tup (pv 7) pe_int (fun _ _ => rfl)) (pa_cons (pv 3) pa_nil)))))))).pt (pss_one (ps_ret pe_bl)) pss_nil))) (pss_one (ps_ret pe_bl))),fun f z r H3 P3 kk => ?_⟩
      have ec : cutV (prs (f :: r)) (some 1) none = prs ((f :: r).drop 1) := by
        unfold cutV prs
        rw [show (1 : Int) = ((1 : Nat) : Int) from rfl,HT.sIx_nat,HT.sIx_none,List.length_map,← List.map_drop]
        rw [Nat.min_eq_left (by simp),List.take_of_length_le (by rw [List.length_map,List.length_drop]; exact Nat.le_refl _)]
      refine ⟨_,rfl,_,rfl,_,rfl,l,_,rfl,SqL.of P3.lst,fun l2' H4 s4 f4 n4 => ?_⟩
      rw [ec] at f4
      have P4 := P3.mono s4
      refine ⟨l,l2',rfl,⟨_,SqL.of P4.lst⟩,⟨_,SqL.of f4⟩,for_zip (K := K) (xs := prs (f :: r)) (ys := prs ((f :: r).drop 1)) (fun i σ H5 => ∃ z1 z2,σ = [some (.ref l1),some (.ref l2),some (.ref l),some (.str wy),some (.ref f.p),some (.ref z.p),z1,z2] ∧ Same H4 H5 ∧ ∀ (j : Nat) u v,j < i → (f :: r)[j]? = some u → (f :: r)[j + 1]? = some v → stepB wy u v = true)
        ⟨_,_,rfl,Same.refl _,fun j u v h => absurd h (by omega)⟩ (fun i σ H5 _ ⟨_,_,_,s5,_⟩ => ⟨SqL.of (s5 _ _ P4.lst),SqL.of (s5 _ _ f4)⟩) ?_ ?_⟩
      · rintro i x y pp σ H5 H6 hx hy ⟨z1,z2,rfl,s5,hst⟩ s6 f6
        obtain ⟨u,hu,rfl⟩ := prs_get hx
        obtain ⟨v,hv,rfl⟩ := prs_get hy
        have hv' : (f :: r)[i + 1]? = some v := by rw [List.getElem?_drop] at hv; rw [Nat.add_comm]; exact hv
        have pu := (P4.pr u (List.mem_of_getElem? hu)).t (s5.trans s6).t
        have pv := (P4.pr v (List.mem_of_getElem? hv')).t (s5.trans s6).t
        have S6 := s4.trans (s5.trans s6)
        have bad : stepB wy u v = false → ∀ H',Same H6 H' → Q (.bl false) H' := fun hb H' s' => by
          have y := kk H' (S6.trans s')
          have zz : stepsB wy (f :: r) = false := by
            rw [Bool.eq_false_iff]
            intro zz
            rw [steps_iff.mp zz i u v hu hv'] at hb
            cases hb
          rw [zz] at y
          exact y
        refine ⟨pp,_,rfl,SqT.of f6,rfl,_,_,rfl,_,_,rfl,rfl,?_⟩
        refine ⟨_,rfl,u.p,_,_,_,rfl,rfl,SqT.of pu.p_,rfl,_,rfl,v.p,_,_,_,rfl,rfl,SqT.of pv.p_,rfl,_,rfl,u.x,v.x,_,_,_,_,wy,rfl,pu.x_,pv.x_,pu.sx,pv.sx,fun H7 s7 => ⟨_,rfl,ite3 (fun h1 => ?_) (fun h1 => ?_)⟩⟩
        · exact bad (by unfold stepB; rw [show goB wy u.a u.b v.a v.b = false by simpa only [Bool.not_eq_true'] using h1,Bool.false_and]) H7 s7
        have h1 : goB wy u.a u.b v.a v.b = true := by simpa only [Bool.not_eq_false'] using h1
        have pu7 := pu.t s7.t
        have pv7 := pv.t s7.t
        refine ⟨_,rfl,u.p,_,_,_,rfl,rfl,SqT.of pu7.p_,rfl,_,rfl,v.p,_,_,_,rfl,rfl,SqT.of pv7.p_,rfl,_,rfl,u.y,v.y,_,_,_,_,wy,rfl,pu7.y_,pv7.y_,pu7.sy,pv7.sy,fun H8 s8 => ⟨_,rfl,ite3 (fun h2 => ?_) (fun h2 => ?_)⟩⟩
        · exact bad (by unfold stepB; rw [show goB wy u.c u.d v.c v.d = false by simpa only [Bool.not_eq_true'] using h2,Bool.and_false]) H8 (s7.trans s8)
        have h2 : goB wy u.c u.d v.c v.d = true := by simpa only [Bool.not_eq_false'] using h2
        refine ⟨_,_,rfl,s5.trans (s6.trans (s7.trans s8)),fun j a b hj ha hb => ?_⟩
        by_cases hji : j = i
        · subst hji
          rw [hu] at ha
          rw [hv'] at hb
          cases ha
          cases hb
          unfold stepB
          rw [h1,h2]
          rfl
        · exact hst j a b (by omega) ha hb
      · rintro σ H5 ⟨z1,z2,rfl,s5,hst⟩
        have y := kk H5 (s4.trans s5)
        have zz : stepsB wy (f :: r) = true := by
          rw [steps_iff]
          intro j u v hu hv
          refine hst j u v ?_ hu hv
          have := (List.getElem?_eq_some_iff.mp hv).1
          rw [prs_len,prs_len,List.length_drop]
          omega
        rw [zz] at y
        exact y
    obtain ⟨u,hu,steps⟩ := R
    refine ⟨_,(pss_cons (ps_if (pt_not (pt_val (pe_fn F_law_are_pairs (hr.mono (by decide)) (by rfl) (pa_cons (pv 0) (pa_cons (pv 1) (pa_cons (pv 2) pa_nil)))))) (pss_one (ps_ret pe_bl)) pss_nil) (pss_cons (ps_set (i := 4) S_law_is_walk.nd rfl (Or.inl rfl) (pe_ix ix_list (pv 2) pe_int (fun _ _ => rfl))) (pss_cons (ps_set (i := 5) S_law_is_walk.nd rfl (Or.inl rfl) (pe_ix ix_list (pv 2) (pe_un un_neg pe_int) (fun _ _ => rfl))) (pss_cons (ps_if (pw_or (pt_cmpR (op_neI hr.units0) (pe_ix ix_tup (pv 4) pe_int (fun _ _ => rfl)) (pe_tupA (pa_cons pe_int (pa_cons pe_int pa_nil))) (nomark _)) (pw_or1 (pt_cmpR (op_neI hr.units0) (pe_ix ix_tup (pv 5) pe_int (fun _ _ => rfl)) (pe_tupA (pa_cons (pe_op op_sub (pe_callB call_len_seq (by rfl) T.z_len bt_len (pa_cons (pv 0) pa_nil)) pe_int) (pa_cons pe_int pa_nil))) (nomark _)))).pt (pss_one (ps_ret pe_bl)) pss_nil) (pss_cons (ps_if (pw_and (pt_cmpR op_ne (pv 3) pe_str (nomark _)) (pw_and1 (pw_or (pt_cmpR (op_neI hr.units0) (pe_ix ix_tup (pv 4) pe_int (fun _ _ => rfl)) (pe_tupA (pa_cons pe_int (pa_cons pe_int pa_nil))) (nomark _)) (pw_or1 (pt_cmpR (op_neI hr.units0) (pe_ix ix_tup (pv 5) pe_int (fun _ _ => rfl)) (pe_tupA (pa_cons (pe_op op_sub (pe_callB call_len_seq (by rfl) T.z_len bt_len (pa_cons (pv 1) pa_nil)) pe_int) (pa_cons pe_int pa_nil))) (nomark _)))).pt)).pt (pss_one (ps_ret pe_bl)) pss_nil) hu))))),?_⟩
    refine ⟨_,rfl,_,rfl,_,rfl,l1,l2,l,xs1,xs2,ps,rfl,⟨e1,n1⟩,⟨e2,n2⟩,PP,fun H0 s0 => ⟨_,rfl,ite3 (fun h0 => ?_) (fun h0 => ?_)⟩⟩
    · have h0 : (!ps.isEmpty && ps.all (inB ((xs1.length : Int) - 1) ((xs2.length : Int) - 1))) = false := by simpa only [Bool.not_eq_true'] using h0
      have y := q H0 s0
      have z : walkB ((xs1.length : Int) - 1) ((xs2.length : Int) - 1) wy ps = false := by
        cases ps with
        | nil => rfl
        | cons f r =>
          rw [walkB_cons]
          rw [show (f :: r).all (inB ((xs1.length : Int) - 1) ((xs2.length : Int) - 1)) = false from h0,Bool.false_and]
      rw [z] at y
      exact y
    have h0 : (!ps.isEmpty && ps.all (inB ((xs1.length : Int) - 1) ((xs2.length : Int) - 1))) = true := by simpa only [Bool.not_eq_false'] using h0
    match ps,PP,hlen,q,h0 with
    | [],PP,hlen,q,h0 => cases h0
    | f :: r,PP,hlen,q,h0 =>
    have h0 : (f :: r).all (inB ((xs1.length : Int) - 1) ((xs2.length : Int) - 1)) = true := h0
    rw [walkB_cons,h0,Bool.true_and] at q
    have PP := PP.mono s0
    have e1 := s0 _ _ e1
    have e2 := s0 _ _ e2
    have q : ∀ H',Same H0 H' → Q (.bl (endsB ((xs1.length : Int) - 1) ((xs2.length : Int) - 1) wy f ((f :: r).getLast (by simp)) && stepsB wy (f :: r))) H' := fun H' s' => q H' (s0.trans s')
    have hf := PP.pr f (by simp)
    have hl := PP.pr _ (List.getLast_mem (l := f :: r) (by simp))
    refine ⟨_,rfl,l,_,_,_,rfl,rfl,SqL.of PP.lst,at_head (V.ref f.p) (prs r),?_⟩
    refine ⟨_,rfl,_,rfl,l,_,_,_,rfl,rfl,SqL.of PP.lst,at_lastP f r,?_⟩
    generalize (f :: r).getLast (by simp) = z at *
    unfold endsB at q
    refine ⟨_,rfl,f.p,_,_,_,rfl,rfl,SqT.of hf.p_,rfl,sz (by simp),fun t1 H1 s1 g1 _ => ?_⟩
    refine ⟨f.x,t1,[f.a,f.b],[0,1],rfl,rfl,SqT.of (s1 _ _ hf.x_),SqT.of g1,_,rfl,?_⟩
    show if (!decide ([f.a,f.b] = [0,1])) = true then _ else _
    rw [two_is]
    refine ite3 (fun c1 => ?_) (fun c1 => ?_)
    · have c1' : isP f.a f.b 0 = false := by simpa using c1
      have y := q H1 s1
      rw [c1'] at y
      exact y
    have c1' : isP f.a f.b 0 = true := by simpa using c1
    rw [c1',Bool.true_and] at q
    have hl1 := hl.t s1.t
    refine ⟨_,rfl,z.p,_,_,_,rfl,rfl,SqT.of hl1.p_,rfl,_,rfl,l1,xs1,rfl,.inl (SqL.of (s1 _ _ e1)),_,_,rfl,rfl,sz (by simp),fun t2 H2 s2 g2 _ => ?_⟩
    refine ⟨z.x,t2,[z.a,z.b],[(xs1.length : Int) - 1,1],rfl,rfl,SqT.of (s2 _ _ hl1.x_),SqT.of g2,_,rfl,?_⟩
    show if (!decide ([z.a,z.b] = [(xs1.length : Int) - 1,1])) = true then _ else _
    rw [two_is]
    refine ite3 (fun c2 => ?_) (fun c2 => ?_)
    · have c2' : isP z.a z.b ((xs1.length : Int) - 1) = false := by simpa using c2
      have y := q H2 (s1.trans s2)
      rw [c2'] at y
      exact y
    have c2' : isP z.a z.b ((xs1.length : Int) - 1) = true := by simpa using c2
    rw [c2'] at q
    have s12 := s1.trans s2
    refine ⟨_,rfl,rfl,_,rfl,ite3 (fun c3 => ?_) (fun c3 => ?_)⟩
    · have e : ¬ wy = wPart := fun z => by
        subst z
        exact absurd c3 (by decide)
      rw [if_pos rfl,if_neg e] at q
      have hf2 := hf.t s12.t
      have hl2 := hl1.t s2.t
      refine ⟨_,rfl,f.p,_,_,_,rfl,rfl,SqT.of hf2.p_,rfl,sz (by simp),fun t3 H3 s3 g3 _ => ?_⟩
      refine ⟨f.y,t3,[f.c,f.d],[0,1],rfl,rfl,SqT.of (s3 _ _ hf2.y_),SqT.of g3,_,rfl,?_⟩
      show if (!decide ([f.c,f.d] = [0,1])) = true then _ else _
      rw [two_is]
      refine ite3 (fun c4 => ?_) (fun c4 => ?_)
      · have c4' : isP f.c f.d 0 = false := by simpa using c4
        have y := q H3 (s12.trans s3)
        rw [c4'] at y
        exact y
      have c4' : isP f.c f.d 0 = true := by simpa using c4
      rw [c4',Bool.true_and] at q
      have hl3 := hl2.t s3.t
      refine ⟨_,rfl,z.p,_,_,_,rfl,rfl,SqT.of hl3.p_,rfl,_,rfl,l2,xs2,rfl,.inl (SqL.of ((s12.trans s3) _ _ e2)),_,_,rfl,rfl,sz (by simp),fun t4 H4 s4 g4 _ => ?_⟩
      refine ⟨z.y,t4,[z.c,z.d],[(xs2.length : Int) - 1,1],rfl,rfl,SqT.of (s4 _ _ hl3.y_),SqT.of g4,_,rfl,?_⟩
      show if (!decide ([z.c,z.d] = [(xs2.length : Int) - 1,1])) = true then _ else _
      rw [two_is]
      refine ite3 (fun c5 => ?_) (fun c5 => ?_)
      · have c5' : isP z.c z.d ((xs2.length : Int) - 1) = false := by simpa using c5
        have y := q H4 (s12.trans (s3.trans s4))
        rw [c5'] at y
        exact y
      have c5' : isP z.c z.d ((xs2.length : Int) - 1) = true := by simpa using c5
      rw [c5',Bool.true_and] at q
      exact steps f z r H4 (PP.mono (s12.trans (s3.trans s4))) fun H' s' => q H' ((s12.trans (s3.trans s4)).trans s')
    · have e : wy = wPart := by
        have h3' : decide (V.str wy = V.str (Str.ofString "part")) = true := by simpa only [Bool.not_eq_true',Bool.not_eq_false',Bool.not_eq_false] using c3
        have := dec_t h3'
        cases this
        rfl
      rw [if_pos rfl,if_pos e,Bool.true_and] at q
      exact steps f z r H2 (PP.mono s12) fun H' s' => q H' (s12.trans s')
theorem prs_but {p l : Addr} {H H' : Hp} {ps : List Pr} {k : Int} (h : PairsAt H l ps) (b : But p H H') (pt : Pot H p k) (n : l ≠ p) : PairsAt H' l ps := ⟨b l _ n h.lst,fun q hq => (h.pr q hq).t (b.t pt)⟩
theorem prs_upd {l : Addr} {H H' : Hp} {xs ys : List V} {rs : List Pr} (u : Upd H H' l xs ys) (e : ys = prs rs) (h : ∀ q ∈ rs,PrAt H q) : PairsAt H' l rs := ⟨by rw [u.now,e],fun q hq => (h q hq).t u.t⟩
theorem pot_upd {p l : Addr} {H H' : Hp} {xs ys : List V} {k : Int} (u : Upd H H' l xs ys) (pt : Pot H p k) (n : l ≠ p) : Pot H' p k := by
  obtain ⟨x,y,z,ep,rest⟩ := pt
  exact ⟨x,y,z,u.at (Ne.symm n) ep,rest⟩
theorem but_upd {p l : Addr} {H0 H H' : Hp} {xs ys : List V} (b : But p H0 H) (u : Upd H H' l xs ys) (n : H0 l = none) : But p H0 H' := fun c o nc e => u.at (fun z => by subst z; rw [n] at e; cases e) (b c o nc e)
theorem at_prs {ps : List Pr} {i : Int} (h0 : 0 ≤ i) (h1 : i < (ps.length : Int)) : ∃ q,ps[i.toNat]? = some q ∧ q ∈ ps ∧ atI (prs ps) i = some (.ref q.p) := by
  have hk : i.toNat < ps.length := by omega
  refine ⟨ps[i.toNat],List.getElem?_eq_getElem hk,List.getElem_mem hk,?_⟩
  have := atI_nat (xs := prs ps) (j := i.toNat) (v := .ref ps[i.toNat].p) (by unfold prs; rw [List.getElem?_map,List.getElem?_eq_getElem hk]; rfl)
  rw [show ((i.toNat : Nat) : Int) = i by omega] at this
  exact this
theorem prs_erase (ps : List Pr) : ∀ k,(prs ps).eraseIdx k = prs (ps.eraseIdx k) := by
  induction ps with
  | nil => intro k; rfl
  | cons a b ih =>
    intro k
    cases k with
    | zero => rfl
    | succ k =>
      show V.ref a.p :: (prs b).eraseIdx k = V.ref a.p :: prs (b.eraseIdx k)
      rw [ih]
def spSpoilt : Sp := fun vs H Q _ => ∃ (p l : Addr) (n m k : Int) (ps : List Pr),vs = [.ref p,.ref l,.int n,.int m] ∧ Pot H p k ∧ k ≤ 500000 ∧ PairsAt H l ps ∧ (1 ≤ ps.length ∧ ps.length ≤ 100) ∧ (0 ≤ n ∧ n ≤ 20) ∧ (0 ≤ m ∧ m ≤ 20) ∧ ∀ (r : Addr) (rs : List Pr) (H' : Hp),PairsAt H' r rs → rs.length ≤ 101 → H r = none → But p H H' → Pot H' p (k + 100) → Q (.ref r) H'
def spDWay : Sp := fun vs H Q _ => ∃ (p : Addr) (k : Int),vs = [.ref p] ∧ Pot H p k ∧ k ≤ 600000 ∧ ∀ (wy : Str) (H' : Hp),isWay wy → But p H H' → Pot H' p (k + 1) → Q (.str wy) H'
def spFolded : Sp := fun vs H Q _ => ∃ (a : Addr) (cs : List Int),vs = [.ref a,.int 3] ∧ H a = some (.lst (cs.map V.int)) ∧ cs.length ≤ 100 ∧ ∀ (r : Addr) (zs : List Int) (H' : Hp),H' r = some (.lst (zs.map V.int)) → Same H H' → Q (.ref r) H'
theorem prs_inj {H : Hp} : ∀ {ps rs : List Pr},(∀ q ∈ ps,PrAt H q) → (∀ q ∈ rs,PrAt H q) → prs ps = prs rs → ps = rs
  | [],[],_,_,_ => rfl
  | [],b :: s,_,_,e => by cases e
  | a :: r,[],_,_,e => by cases e
  | a :: r,b :: s,h1,h2,e => by
    have e' : V.ref a.p :: prs r = V.ref b.p :: prs s := e
    injection e' with e1 e2
    have ih := prs_inj (fun q hq => h1 q (List.mem_cons_of_mem _ hq)) (fun q hq => h2 q (List.mem_cons_of_mem _ hq)) e2
    have ha := h1 a List.mem_cons_self
    have hb := h2 b List.mem_cons_self
    injection e1 with e1
    obtain ⟨p,x,y,a1,a2,a3,a4⟩ := a
    obtain ⟨p',x',y',b1,b2,b3,b4⟩ := b
    dsimp only at e1
    subst e1
    have q1 := ha.p_
    rw [hb.p_] at q1
    simp only [Option.some.injEq,HO.tup.injEq,List.cons.injEq,V.ref.injEq,and_true] at q1
    obtain ⟨rfl,rfl⟩ := q1
    have q2 := ha.x_
    rw [hb.x_] at q2
    have q3 := ha.y_
    rw [hb.y_] at q3
    simp only [Option.some.injEq,HO.tup.injEq,List.cons.injEq,V.int.injEq,and_true] at q2 q3
    obtain ⟨rfl,rfl⟩ := q2
    obtain ⟨rfl,rfl⟩ := q3
    rw [ih]
theorem walkV_eq {n m : Int} {w : Str} {H : Hp} {l : Addr} {ps : List Pr} {b : Bool} (P : PairsAt H l ps) (h : walkV n m w H (.ref l) b) : b = walkB n m w ps := by
  rcases h with ⟨h1,rfl⟩ | ⟨l',rs,e,P',rfl⟩
  · rw [P.pv] at h1
    cases ps with
    | nil => rfl
    | cons f r =>
      rw [walkB_cons,show (f :: r).all (inB n m) = false from h1,Bool.false_and]
  · cases e
    have e2 := P.lst
    rw [P'.lst] at e2
    have e3 : prs rs = prs ps := by injection e2 with e2; injection e2
    rw [prs_inj P'.pr P.pr e3]
theorem dp_pr {H : Hp} {pp zx zy : Addr} {t b n c d : Int} {w : Str} (e : H pp = some (.tup [.ref zx,.ref zy])) (dx : Dp H zx t b n w) (hy : H zy = some (.tup [.int c,.int d])) (ly : Low c d) (ny : 0 ≤ c) (bc : bits c ≤ 200) (bd : bits d ≤ 60) : PrAt H ⟨pp,zx,zy,t,b,c,d⟩ :=
  ⟨e,dx.at_,hy,dx.low,ly,dx.n0,ny,bits_le dx.bt (by decide),bits_le dx.bb (by decide),bc,bd⟩
theorem pr_dp {H : Hp} {pp zx zy : Addr} {t b n c d : Int} {w : Str} (e : H pp = some (.tup [.ref zx,.ref zy])) (hx : H zx = some (.tup [.int c,.int d])) (lx : Low c d) (nx : 0 ≤ c) (bc : bits c ≤ 200) (bd : bits d ≤ 60) (dy : Dp H zy t b n w) : PrAt H ⟨pp,zx,zy,c,d,t,b⟩ :=
  ⟨e,hx,dy.at_,lx,dy.low,nx,dy.n0,bc,bd,bits_le dy.bt (by decide),bits_le dy.bb (by decide)⟩
theorem S_law_spoilt : FnScope ["pot","pairs","n","m","made","at","turn"] ["pot","pairs","n","m"] (defScope (top 119)) := ⟨rfl,rfl,rfl,by decide +kernel,rfl,by decide +kernel,by decide +kernel⟩
theorem fn_law_spoilt (D_law_spoilt : Df K mg "_law_spoilt" (top 119)) (F_law_take : Fn P w K mg base "_law_take" ["pot","size"] 1 Dr.spTk) (F_law_any : Fn P w K mg base "_law_any" ["pot","last","way"] 4 spAny) (T : Txt mg) : Fn P w K mg base "_law_spoilt" ["pot","pairs","n","m"] 5 spSpoilt := by
  refine D_law_spoilt.fn S_law_spoilt (fun _ _ _ _ _ _ us hl => by obtain ⟨_,_,_,_,rfl⟩ := len4 hl; rfl) (fun vs H Q E h => ?_) (fun f cdv A outer s H vs Q E hr h => ?_)
  · obtain ⟨p,l,n,m,k,ps,rfl,_⟩ := h
    rfl
  · obtain ⟨p,l,n,m,k,ps,rfl,pt,hk,PP,⟨hp1,hp2⟩,⟨hn0,hn1⟩,⟨hm0,hm1⟩,q⟩ := h
    have e63 : (2 : Int) ^ 63 = 9223372036854775808 := by decide
    have R : ∃ u,PSs (cxOf CX0 P w K mg base ["pot","pairs","n","m","made","at","turn"] "_law_spoilt" (defScope (top 119)) f cdv A outer s H E).nox ((defBody (top 119)).drop 4) u ∧ ∀ (l1 : Addr) (rs : List Pr) (z5 z6 : Option V) (H4 : Hp),H l1 = none → PairsAt H4 l1 rs → rs.length ≤ 101 → But p H H4 → Pot H4 p (k + 100) → u { nx := fun _ H' => Q .non H',rt := Q } [some (.ref p),some (.ref l),some (.int n),some (.int m),some (.ref l1),z5,z6] H4 := by
      refine ⟨_,(pss_one (ps_ret (pv 4))),fun l1 rs z5 z6 H4 nl P4 h4 b4 p4 => ?_⟩
      exact ⟨_,rfl,q l1 rs H4 P4 h4 nl b4 p4⟩
    obtain ⟨u,hu,fin⟩ := R
    refine ⟨_,(pss_cons (ps_set (i := 4) S_law_spoilt.nd rfl (Or.inl rfl) (pe_callTy call_list_ofA (by rfl) T.z_list bt_list (pa_cons (pv 1) pa_nil))) (pss_cons (ps_set (i := 5) S_law_spoilt.nd rfl (Or.inl rfl) (pe_fn F_law_take (hr.mono (by decide)) (by rfl) (pa_cons (pv 0) (pa_cons (pe_callB call_len_seq (by rfl) T.z_len bt_len (pa_cons (pv 4) pa_nil)) pa_nil)))) (pss_cons (ps_set (i := 6) S_law_spoilt.nd rfl (Or.inl rfl) (pe_fn F_law_take (hr.mono (by decide)) (by rfl) (pa_cons (pv 0) (pa_cons pe_int pa_nil)))) (pss_cons (ps_if (pt_cmpR op_eq (pv 6) pe_int (nomark _)) (pss_one (ps_expr (pe_bm PySem.F.plainAttrs_list PySem.F.slot_list_pop PySem.F.type_list_pop mt_popAtA (pv 4) (pa_cons (pv 5) pa_nil)))) (pss_one (ps_if (pt_cmpR op_eq (pv 6) pe_int (nomark _)) (pss_one (ps_expr (pe_bm PySem.F.plainAttrs_list PySem.F.slot_list_insert PySem.F.type_list_insert mt_insA (pv 4) (pa_cons (pv 5) (pa_cons (pe_ix ix_list (pv 4) (pv 5) (fun _ _ => rfl)) pa_nil))))) (pss_one (ps_if (pt_cmpR op_eq (pv 6) pe_int (nomark _)) (pss_one (ps_expr (pe_bm0 PySem.F.plainAttrs_list PySem.F.slot_list_reverse PySem.F.type_list_reverse mt_reverseA (pv 4)))) (pss_one (ps_if (pt_cmpR op_eq (pv 6) pe_int (nomark _)) (pss_one (ps_expr (pe_bm PySem.F.plainAttrs_list PySem.F.slot_list_insert PySem.F.type_list_insert mt_insA (pv 4) (pa_cons (pv 5) (pa_cons (pe_tupA (pa_cons (pe_fn F_law_any (hr.mono (by decide)) (by rfl) (pa_cons (pv 0) (pa_cons (pv 2) (pa_cons pe_str pa_nil)))) (pa_cons (pe_fn F_law_any (hr.mono (by decide)) (by rfl) (pa_cons (pv 0) (pa_cons (pv 3) (pa_cons pe_str pa_nil)))) pa_nil))) pa_nil))))) (pss_one (ps_if (pt_cmpR op_eq (pv 6) pe_int (nomark _)) (pss_one (ps_asg (pe_tupA (pa_cons (pe_fn F_law_any (hr.mono (by decide)) (by rfl) (pa_cons (pv 0) (pa_cons (pv 2) (pa_cons pe_str pa_nil)))) (pa_cons (pe_ix ix_tup (pe_ix ix_list (pv 4) (pv 5) (fun _ _ => rfl)) pe_int (fun _ _ => rfl)) pa_nil))) (pg_sub (pv 4) (pv 5) set_listA))) (pss_one (ps_if (pt_cmpR op_eq (pv 6) pe_int (nomark _)) (pss_one (ps_asg (pe_tupA (pa_cons (pe_ix ix_tup (pe_ix ix_list (pv 4) (pv 5) (fun _ _ => rfl)) pe_int (fun _ _ => rfl)) (pa_cons (pe_fn F_law_any (hr.mono (by decide)) (by rfl) (pa_cons (pv 0) (pa_cons (pv 3) (pa_cons pe_str pa_nil)))) pa_nil))) (pg_sub (pv 4) (pv 5) set_listA))) (pss_one (ps_if (pt_cmpR op_eq (pv 6) pe_int (nomark _)) (pss_one (ps_expr (pe_bm PySem.F.plainAttrs_list PySem.F.slot_list_append PySem.F.type_list_append mt_appendA (pv 4) (pa_cons (pe_tupA (pa_cons (pe_fn F_law_any (hr.mono (by decide)) (by rfl) (pa_cons (pv 0) (pa_cons (pv 2) (pa_cons pe_str pa_nil)))) (pa_cons (pe_fn F_law_any (hr.mono (by decide)) (by rfl) (pa_cons (pv 0) (pa_cons (pv 3) (pa_cons pe_str pa_nil)))) pa_nil))) pa_nil)))) pss_nil))))))))))))) hu)))),?_⟩
    refine ⟨_,rfl,l,_,rfl,.inl (SqL.of PP.lst),fun l1 H1 s1 f1 n1 => ?_⟩
    have P1 : PairsAt H1 l1 ps := ⟨f1,(PP.mono s1).pr⟩
    have np := Pot.ne pt n1
    have p1 := pt.same s1
    refine ⟨_,rfl,_,rfl,l1,_,rfl,.inl (SqL.of f1),p,_,_,rfl,p1,by omega,⟨by rw [prs_len]; omega,bits_le (bits_small (by omega) (by rw [prs_len]; omega)) (by decide)⟩,fun at_ H2 a2 b2' b2 p2 => ?_⟩
    rw [prs_len] at b2'
    have P2 := prs_but P1 b2 p1 np
    refine ⟨_,rfl,p,_,_,rfl,p2,by omega,⟨by decide,by decide⟩,fun r3 H3 a3 b3' b3 p3 => ?_⟩
    have P3 := prs_but P2 b3 p2 np
    have B3 : But p H H3 := (But.of s1).trans (b2.trans b3)
    obtain ⟨q0,hq0,mq0,eq0⟩ := at_prs (ps := ps) a2 b2'
    have ha : at_.toNat < ps.length := by omega
    refine ⟨_,rfl,rfl,_,rfl,ite3 (fun h0 => ?_) (fun h0 => ?_)⟩
    · refine ⟨_,rfl,.inl ⟨rfl,_,SqL.of P3.lst⟩,_,rfl,l1,_,_,_,_,rfl,rfl,P3.lst,by rw [e63]; omega,by rw [e63]; omega,(ixN_seq (ixN_of a2 (by rw [prs_len]; exact b2'))).1,by unfold prs; rw [List.getElem?_map,hq0]; rfl,fun H4 u4 => ?_⟩
      exact fin l1 (ps.eraseIdx at_.toNat) _ _ H4 n1 (prs_upd u4 (prs_erase _ _) fun z hz => P3.pr z (List.mem_of_mem_eraseIdx hz)) (by rw [List.length_eraseIdx]; split <;> omega) (but_upd B3 u4 n1) ((pot_upd u4 p3 np).mono (by omega))
    refine ⟨_,rfl,rfl,_,rfl,ite3 (fun h0 => ?_) (fun h0 => ?_)⟩
    · refine ⟨_,rfl,.inl ⟨rfl,_,SqL.of P3.lst⟩,_,rfl,_,rfl,_,rfl,l1,_,_,_,rfl,rfl,SqL.of P3.lst,eq0,l1,_,_,_,rfl,rfl,P3.lst,⟨a2,by rw [prs_len]; omega⟩,by rw [prs_len]; omega,fun H4 u4 => ?_⟩
      refine fin l1 (ps.take at_.toNat ++ [q0] ++ ps.drop at_.toNat) _ _ H4 n1 (prs_upd u4 (by unfold prs; simp) fun z hz => ?_) (by simp; omega) (but_upd B3 u4 n1) ((pot_upd u4 p3 np).mono (by omega))
      simp only [List.mem_append,List.mem_singleton] at hz
      rcases hz with (hz | rfl) | hz
      · exact P3.pr z (List.mem_of_mem_take hz)
      · exact P3.pr _ mq0
      · exact P3.pr z (List.mem_of_mem_drop hz)
    refine ⟨_,rfl,rfl,_,rfl,ite3 (fun h0 => ?_) (fun h0 => ?_)⟩
    · refine ⟨_,rfl,.inl ⟨rfl,_,SqL.of P3.lst⟩,l1,_,rfl,rfl,P3.lst,fun H4 u4 => ?_⟩
      exact fin l1 ps.reverse _ _ H4 n1 (prs_upd u4 (by unfold prs; rw [List.map_reverse]) fun z hz => P3.pr z (List.mem_reverse.mp hz)) (by rw [List.length_reverse]; omega) (but_upd B3 u4 n1) ((pot_upd u4 p3 np).mono (by omega))
    refine ⟨_,rfl,rfl,_,rfl,ite3 (fun h0 => ?_) (fun h0 => ?_)⟩
    · refine ⟨_,rfl,.inl ⟨rfl,_,SqL.of P3.lst⟩,_,rfl,_,rfl,_,rfl,p,n,_,wOn,rfl,p3,by omega,⟨hn0,by omega⟩,fun zx t b H4 dx4 b4 p4 => ?_⟩
      refine ⟨_,rfl,_,rfl,p,m,_,wOn,rfl,p4,by omega,⟨hm0,by omega⟩,fun zy c d H5 dy5 b5 p5 => ?_⟩
      have P5 := prs_but (prs_but P3 b4 p3 np) b5 p4 np
      refine ⟨sz (by simp),fun pp H6 s6 f6 n6 => ?_⟩
      have P6 := P5.mono s6
      obtain ⟨pr',_,_⟩ := Dp.pr f6 ((dx4.t' (b5.t p4)).t' s6.t) (dy5.t' s6.t)
      refine ⟨l1,_,_,_,rfl,rfl,P6.lst,⟨a2,by rw [prs_len]; omega⟩,by rw [prs_len]; omega,fun H7 u7 => ?_⟩
      refine fin l1 (ps.take at_.toNat ++ [⟨pp,zx,zy,t,b,c,d⟩] ++ ps.drop at_.toNat) _ _ H7 n1 (prs_upd u7 (by unfold prs; simp) fun z hz => ?_) (by simp; omega) (but_upd (B3.trans (b4.trans (b5.trans (But.of s6)))) u7 n1) ((pot_upd u7 (p5.same s6) np).mono (by omega))
      simp only [List.mem_append,List.mem_singleton] at hz
      rcases hz with (hz | rfl) | hz
      · exact P6.pr z (List.mem_of_mem_take hz)
      · exact pr'
      · exact P6.pr z (List.mem_of_mem_drop hz)
    have hset : ∀ {Ha Hb : Hp} {z : Pr},PairsAt Ha l1 ps → PrAt Ha z → Upd Ha Hb l1 (prs ps) ((prs ps).set at_.toNat (.ref z.p)) → PairsAt Hb l1 (ps.set at_.toNat z) := fun {Ha Hb z} Pa pz ub => prs_upd ub (by unfold prs; rw [List.map_set]) fun y hy => by
      rcases List.mem_or_eq_of_mem_set hy with hy | rfl
      · exact Pa.pr y hy
      · exact pz
    refine ⟨_,rfl,rfl,_,rfl,ite3 (fun h0 => ?_) (fun h0 => ?_)⟩
    · refine ⟨_,rfl,_,rfl,p,n,_,wOn,rfl,p3,by omega,⟨hn0,by omega⟩,fun zx t b H4 dx4 b4 p4 => ?_⟩
      have P4 := prs_but P3 b4 p3 np
      have q4 := P4.pr q0 mq0
      refine ⟨_,rfl,_,rfl,l1,_,_,_,rfl,rfl,SqL.of P4.lst,eq0,q0.p,_,_,_,rfl,rfl,SqT.of q4.p_,rfl,sz (by simp),fun pp H6 s6 f6 n6 => ?_⟩
      have P6 := P4.mono s6
      have q6 := q4.t s6.t
      refine ⟨_,rfl,_,rfl,l1,_,_,_,rfl,rfl,P6.lst,ixN_of a2 (by rw [prs_len]; exact b2'),fun H7 u7 => ?_⟩
      exact fin l1 _ _ _ H7 n1 (hset P6 (dp_pr f6 (dx4.t' s6.t) q6.y_ q6.ly q6.ny q6.bc q6.bd) u7) (by rw [List.length_set]; omega) (but_upd (B3.trans (b4.trans (But.of s6))) u7 n1) ((pot_upd u7 (p4.same s6) np).mono (by omega))
    refine ⟨_,rfl,rfl,_,rfl,ite3 (fun h0 => ?_) (fun h0 => ?_)⟩
    · have q3 := P3.pr q0 mq0
      refine ⟨_,rfl,_,rfl,l1,_,_,_,rfl,rfl,SqL.of P3.lst,eq0,q0.p,_,_,_,rfl,rfl,SqT.of q3.p_,rfl,?_⟩
      refine ⟨_,rfl,_,rfl,p,m,_,wOn,rfl,p3,by omega,⟨hm0,by omega⟩,fun zy t b H4 dy4 b4 p4 => ?_⟩
      have P4 := prs_but P3 b4 p3 np
      refine ⟨sz (by simp),fun pp H6 s6 f6 n6 => ?_⟩
      have P6 := P4.mono s6
      have q6 := P6.pr q0 mq0
      refine ⟨_,rfl,_,rfl,l1,_,_,_,rfl,rfl,P6.lst,ixN_of a2 (by rw [prs_len]; exact b2'),fun H7 u7 => ?_⟩
      exact fin l1 _ _ _ H7 n1 (hset P6 (pr_dp f6 q6.x_ q6.lx q6.nx q6.ba q6.bb (dy4.t' s6.t)) u7) (by rw [List.length_set]; omega) (but_upd (B3.trans (b4.trans (But.of s6))) u7 n1) ((pot_upd u7 (p4.same s6) np).mono (by omega))
    refine ⟨_,rfl,rfl,_,rfl,ite3 (fun h0 => ?_) (fun h0 => ?_)⟩
    · refine ⟨_,rfl,.inl ⟨rfl,_,SqL.of P3.lst⟩,_,rfl,_,rfl,p,n,_,wOn,rfl,p3,by omega,⟨hn0,by omega⟩,fun zx t b H4 dx4 b4 p4 => ?_⟩
      refine ⟨_,rfl,_,rfl,p,m,_,wOn,rfl,p4,by omega,⟨hm0,by omega⟩,fun zy c d H5 dy5 b5 p5 => ?_⟩
      have P5 := prs_but (prs_but P3 b4 p3 np) b5 p4 np
      refine ⟨sz (by simp),fun pp H6 s6 f6 n6 => ?_⟩
      have P6 := P5.mono s6
      obtain ⟨pr',_,_⟩ := Dp.pr f6 ((dx4.t' (b5.t p4)).t' s6.t) (dy5.t' s6.t)
      refine ⟨l1,_,_,rfl,rfl,P6.lst,small1000 (by rw [prs_len]; omega),fun H7 u7 => ?_⟩
      refine fin l1 (ps ++ [⟨pp,zx,zy,t,b,c,d⟩]) _ _ H7 n1 (prs_upd u7 (by unfold prs; simp) fun z hz => ?_) (by simp; omega) (but_upd (B3.trans (b4.trans (b5.trans (But.of s6)))) u7 n1) ((pot_upd u7 (p5.same s6) np).mono (by omega))
      rcases List.mem_append.mp hz with hz | hz
      · exact P6.pr z hz
      · rw [List.mem_singleton.mp hz]
        exact pr'
    exact fin l1 ps _ _ H3 n1 P3 (by omega) B3 (p3.mono (by omega))
theorem S_law_drawn_way : FnScope ["pot"] ["pot"] (defScope (top 120)) := ⟨rfl,rfl,rfl,by decide +kernel,rfl,by decide +kernel,by decide +kernel⟩
theorem fn_law_drawn_way (D_law_drawn_way : Df K mg "_law_drawn_way" (top 120)) (F_law_take : Fn P w K mg base "_law_take" ["pot","size"] 1 Dr.spTk) : Fn P w K mg base "_law_drawn_way" ["pot"] 2 spDWay := by
  refine D_law_drawn_way.fn S_law_drawn_way (fun _ _ _ _ _ _ us hl => by obtain ⟨_,rfl⟩ := len1 hl; rfl) (fun vs H Q E h => ?_) (fun f cdv A outer s H vs Q E hr h => ?_)
  · obtain ⟨p,k,rfl,_⟩ := h
    rfl
  · obtain ⟨p,k,rfl,pt,hk,q⟩ := h
    refine ⟨_,(pss_one (ps_ret (pe_ix ix_list (pe_lstA (pa_cons pe_str (pa_cons pe_str (pa_cons pe_str (pa_cons pe_str pa_nil))))) (pe_fn F_law_take (hr.mono (by decide)) (by rfl) (pa_cons (pv 0) (pa_cons pe_int pa_nil))) (fun _ _ => rfl)))),?_⟩
    refine ⟨sz (by simp),fun lw H1 s1 f1 n1 => ?_⟩
    have np1 := Pot.ne pt n1
    refine ⟨_,rfl,p,_,_,rfl,pt.same s1,by omega,⟨by decide,by decide⟩,fun r2 H2 a2 b2' b2 p2 => ?_⟩
    refine menu (b2 _ _ np1 f1) a2 (by simpa using b2') fun v hv => ?_
    have B2 : But p H H2 := (But.of s1).trans b2
    simp only [List.mem_cons,List.not_mem_nil,or_false] at hv
    rcases hv with rfl | rfl | rfl | rfl
    · exact q _ H2 (.inl rfl) B2 p2
    · exact q _ H2 (.inr (.inl rfl)) B2 p2
    · exact q _ H2 (.inr (.inr (.inl rfl))) B2 p2
    · exact q _ H2 (.inr (.inr (.inr rfl))) B2 p2
theorem S_law_folded : FnScope ["cells","many","found","k","cell"] ["cells","many"] (defScope (top 93)) := ⟨rfl,rfl,rfl,by decide +kernel,rfl,by decide +kernel,by decide +kernel⟩
theorem fn_law_folded (D_law_folded : Df K mg "_law_folded" (top 93)) (T : Txt mg) : Fn P w K mg base "_law_folded" ["cells","many"] 1 spFolded := by
  refine D_law_folded.fn S_law_folded (fun _ _ _ _ _ _ us hl => by obtain ⟨_,_,rfl⟩ := len2 hl; rfl) (fun vs H Q E h => ?_) (fun f cdv A outer s H vs Q E hr h => ?_)
  · obtain ⟨a,cs,rfl,_⟩ := h
    rfl
  · obtain ⟨a,cs,rfl,ea,hc,q⟩ := h
    refine ⟨_,(pss_cons (ps_set (i := 2) S_law_folded.nd rfl (Or.inl rfl) (pe_op op_repA (pe_lstA (pa_cons pe_int pa_nil)) (pe_callB (call_min2 rfl) (by rfl) T.z_min bt_min (pa_cons (pv 1) (pa_cons (pe_callB (call_max2 rfl) (by rfl) T.z_max bt_max (pa_cons pe_int (pa_cons (pe_callB call_len_seq (by rfl) T.z_len bt_len (pa_cons (pv 0) pa_nil)) pa_nil))) pa_nil))))) (pss_cons (ps_for PassesOwn.never rfl (pi_enum rfl T.z_enumerate (pa_cons (pv 0) pa_nil)) (pg_tup rfl (pgs_cons (pg_name (i := 3) S_law_folded.nd rfl (Or.inl rfl)) (pgs_cons (pg_name (i := 4) S_law_folded.nd rfl (Or.inl rfl)) pgs_nil))) (pss_one (ps_asg (pe_op op_add (pe_op op_mulX (pe_ix ix_list (pv 2) (pe_op op_mod (pv 3) (pe_callB call_len_seq (by rfl) T.z_len bt_len (pa_cons (pv 2) pa_nil))) (fun _ _ => rfl)) pe_int) (pv 4)) (pg_sub (pv 2) (pe_op op_mod (pv 3) (pe_callB call_len_seq (by rfl) T.z_len bt_len (pa_cons (pv 2) pa_nil))) set_listA)))) (pss_one (ps_ret (pv 2))))),?_⟩
    have e63 : (2 : Int) ^ 63 = 9223372036854775808 := by decide
    have hcl : (cs.map V.int).length = cs.length := List.length_map _
    refine ⟨sz (by simp),fun c1 H1 s1 f1 n1 => ?_⟩
    refine ⟨_,rfl,_,rfl,a,_,rfl,.inl (SqL.of (s1 _ _ ea)),_,_,rfl,_,_,rfl,?_⟩
    have hM : 1 ≤ (if (if (((cs.map V.int).length : Nat) : Int) > 1 then (((cs.map V.int).length : Nat) : Int) else 1) < 3 then (if (((cs.map V.int).length : Nat) : Int) > 1 then (((cs.map V.int).length : Nat) : Int) else 1) else 3) ∧ (if (if (((cs.map V.int).length : Nat) : Int) > 1 then (((cs.map V.int).length : Nat) : Int) else 1) < 3 then (if (((cs.map V.int).length : Nat) : Int) > 1 then (((cs.map V.int).length : Nat) : Int) else 1) else 3) ≤ 3 := by
      split <;> split <;> omega
    generalize (if (if (((cs.map V.int).length : Nat) : Int) > 1 then (((cs.map V.int).length : Nat) : Int) else 1) < 3 then (if (((cs.map V.int).length : Nat) : Int) > 1 then (((cs.map V.int).length : Nat) : Int) else 1) else 3) = M at hM
    refine ⟨c1,_,_,rfl,rfl,f1,by rw [e63]; omega,by rw [e63]; omega,sz (by simp; omega),fun r H2 s2 f2 n2 => ?_⟩
    rw [List.flatten_replicate_singleton,show List.replicate M.toNat (V.int 0) = (List.replicate M.toNat 0).map V.int from List.map_replicate.symm] at f2
    have nr : H r = none := s1.free n2
    have ea2 := (s1.trans s2) _ _ ea
    have nar : a ≠ r := ne_of_none ((s1) _ _ ea) n2
    refine ⟨_,rfl,a,rfl,⟨_,SqL.of ea2⟩,for_enum (K := K) (a := a) (xs := cs.map V.int) (fun i σ H3 => ∃ (z1 z2 : Option V) (zs : List Int),σ = [some (.ref a),some (.int 3),some (.ref r),z1,z2] ∧ zs.length = M.toNat ∧ H3 r = some (.lst (zs.map V.int)) ∧ Same H H3)
      ⟨_,_,_,rfl,by simp,f2,s1.trans s2⟩ (fun i σ H3 _ ⟨_,_,_,_,_,_,s3⟩ => SqL.of (s3 _ _ ea)) ?_ ?_⟩
    · rintro i x pp σ H3 H4 hx ⟨z1,z2,zs,rfl,hz,e3,s3⟩ s4 f4
      rw [List.getElem?_map] at hx
      obtain ⟨c,hc',rfl⟩ := Option.map_eq_some_iff.mp hx
      have e4 := s4 _ _ e3
      have hzl : (((zs.map V.int).length : Nat) : Int) = M := by rw [List.length_map,hz]; omega
      have m0 := Int.emod_nonneg (i : Int) (show M ≠ 0 by omega)
      have m1 := Int.emod_lt_of_pos (i : Int) (show 0 < M by omega)
      refine ⟨pp,_,rfl,SqT.of f4,rfl,_,_,rfl,_,_,rfl,rfl,?_⟩
      refine ⟨_,rfl,_,rfl,_,rfl,r,_,rfl,.inl (SqL.of e4),_,_,rfl,rfl,by rw [hzl]; omega,?_⟩
      rw [hzl]
      refine ⟨r,_,_,_,rfl,rfl,SqL.of e4,at_int ((i : Int) % M).toNat (by omega) (by omega),_,_,rfl,rfl,CM.r ⟨by decide,by decide⟩,_,rfl,_,_,rfl,rfl,?_⟩
      refine ⟨_,rfl,_,rfl,_,rfl,r,_,rfl,.inl (SqL.of e4),_,_,rfl,rfl,by rw [hzl]; omega,?_⟩
      rw [hzl]
      refine ⟨r,_,_,_,rfl,rfl,e4,ixN_of m0 (by rw [hzl]; exact m1),fun H5 u => ?_⟩
      exact ⟨_,_,zs.set ((i : Int) % M).toNat (zs[((i : Int) % M).toNat]'(by omega) * 7 + c),rfl,by rw [List.length_set]; exact hz,by rw [u.now,← List.map_set],u.same (s3.trans s4) nr⟩
    · rintro σ H3 ⟨z1,z2,zs,rfl,hz,e3,s3⟩
      exact ⟨_,rfl,q r zs H3 e3 s3⟩
theorem sqnn (x : Int) : 0 ≤ x * x := by
  rcases Int.le_total 0 x with h | h
  · exact Int.mul_nonneg h h
  · have := Int.mul_nonneg (show 0 ≤ -x by omega) (show 0 ≤ -x by omega)
    rw [Int.neg_mul_neg] at this
    exact this
theorem lin4 (x y b r : Int) : x * (b - r) + y * r = x * b + (y - x) * r := by grind
theorem sqD_pos {b d : Int} (hb : 0 < b) (hd : 0 < d) : 0 < sqD b d := Int.mul_pos (Int.mul_pos hb hd) (Int.mul_pos hb hd)
theorem sqF_nn (qs : Crn) (t b : Int) (rs : Crn) (t' b' : Int) : 0 ≤ sqF qs t b rs t' b' := by
  unfold sqF sqN
  exact Int.add_nonneg (sqnn _) (sqnn _)
structure MaxSq (qs rs : Crn) (ps : List Pr) (s w : Int) : Prop where
  low : Low s w
  most : ∀ q ∈ ps,sqF qs q.a q.b rs q.c q.d * w ≤ s * sqD q.b q.d
  att : ∃ q ∈ ps,sqF qs q.a q.b rs q.c q.d * w = s * sqD q.b q.d
theorem frac_le {F D s w s' w' : Int} (hD : 0 < D) (hw : 0 < w) (e : F * w = s * D) (h : F * w' ≤ s' * D) : s * w' ≤ s' * w := by
  refine Int.le_of_mul_le_mul_left (a := D) ?_ hD
  have h1 : F * w' * w ≤ s' * D * w := Int.mul_le_mul_of_nonneg_right h (by omega)
  have e1 : D * (s * w') = F * w' * w := by
    have : D * (s * w') = (s * D) * w' := by grind
    rw [this,← e]
    grind
  have e2 : D * (s' * w) = s' * D * w := by grind
  rw [e1,e2]
  exact h1
theorem MaxSq.uniq {qs rs : Crn} {ps : List Pr} {s w s' w' : Int} (pos : ∀ q ∈ ps,0 < q.b ∧ 0 < q.d) (h : MaxSq qs rs ps s w) (h' : MaxSq qs rs ps s' w') : s = s' ∧ w = w' := by
  refine low_unique h.low h'.low (Int.le_antisymm ?_ ?_)
  · obtain ⟨q,hq,e⟩ := h.att
    exact frac_le (sqD_pos (pos q hq).1 (pos q hq).2) h.low.pos e (h'.most q hq)
  · obtain ⟨q,hq,e⟩ := h'.att
    exact frac_le (sqD_pos (pos q hq).1 (pos q hq).2) h'.low.pos e (h.most q hq)
theorem frac_up {F D s w s' w' : Int} (hD : 0 < D) (hw : 0 < w) (e : F * w = s * D) (h : s * w' ≤ s' * w) : F * w' ≤ s' * D := by
  refine Int.le_of_mul_le_mul_left (a := w) ?_ hw
  have h1 : s * w' * D ≤ s' * w * D := Int.mul_le_mul_of_nonneg_right h (by omega)
  have e1 : w * (F * w') = s * w' * D := by
    have : w * (F * w') = (F * w) * w' := by grind
    rw [this,e]
    grind
  have e2 : w * (s' * D) = s' * w * D := by grind
  rw [e1,e2]
  exact h1
theorem frac_on {F D s w s' w' : Int} (hw : 0 < w) (hw' : 0 < w') (hD : 0 < D) (h : F * w ≤ s * D) (h2 : s * w' ≤ s' * w) : F * w' ≤ s' * D := by
  refine Int.le_of_mul_le_mul_left (a := w) ?_ hw
  have h1 : F * w * w' ≤ s * D * w' := Int.mul_le_mul_of_nonneg_right h (by omega)
  have h3 : s * w' * D ≤ s' * w * D := Int.mul_le_mul_of_nonneg_right h2 (by omega)
  have e1 : w * (F * w') = F * w * w' := by grind
  have e2 : w * (s' * D) = s' * w * D := by grind
  have e3 : s * D * w' = s * w' * D := by grind
  rw [e1,e2]
  rw [e3] at h1
  exact Int.le_trans h1 h3
structure Frs (H : Hp) (l : Addr) (fs : Crn) : Prop where
  lst : H l = some (.lst (fs.map fun q => V.ref q.1))
  fr : ∀ q ∈ fs,H q.1 = some (.tup [.int q.2.1,.int q.2.2]) ∧ 0 < q.2.2 ∧ bits q.2.1 ≤ 2000 ∧ bits q.2.2 ≤ 2000
theorem Frs.mono {H H' : Hp} {l : Addr} {fs : Crn} (L : Frs H l fs) (s : Same H H') : Frs H' l fs := ⟨s _ _ L.lst,fun q h => ⟨s _ _ (L.fr q h).1,(L.fr q h).2⟩⟩
def leF (p q : Addr × Int × Int) : Prop := p.2.1 * q.2.2 ≤ q.2.1 * p.2.2
theorem leF_trans {p q r : Addr × Int × Int} (hq : 0 < q.2.2) (hp : 0 < p.2.2) (hr : 0 < r.2.2) (h1 : leF p q) (h2 : leF q r) : leF p r := by
  unfold leF at *
  refine Int.le_of_mul_le_mul_left (a := q.2.2) ?_ hq
  have a1 : p.2.1 * q.2.2 * r.2.2 ≤ q.2.1 * p.2.2 * r.2.2 := Int.mul_le_mul_of_nonneg_right h1 (by omega)
  have a2 : q.2.1 * r.2.2 * p.2.2 ≤ r.2.1 * q.2.2 * p.2.2 := Int.mul_le_mul_of_nonneg_right h2 (by omega)
  have e1 : q.2.2 * (p.2.1 * r.2.2) = p.2.1 * q.2.2 * r.2.2 := by grind
  have e2 : q.2.2 * (r.2.1 * p.2.2) = r.2.1 * q.2.2 * p.2.2 := by grind
  have e3 : q.2.1 * p.2.2 * r.2.2 = q.2.1 * r.2.2 * p.2.2 := by grind
  rw [e1,e2]
  rw [e3] at a1
  exact Int.le_trans a1 a2
theorem list_of {α β : Type} : ∀ (xs : List α) (R : Nat → α → β → Prop),(∀ i x,xs[i]? = some x → ∃ b,R i x b) → ∃ bs : List β,bs.length = xs.length ∧ ∀ i x b,xs[i]? = some x → bs[i]? = some b → R i x b
  | [],R,_ => ⟨[],rfl,fun i x b h => by simp at h⟩
  | a :: r,R,h => by
    obtain ⟨bs,hl,hb⟩ := list_of r (fun i => R (i + 1)) (fun i x hx => h (i + 1) x (by simpa using hx))
    obtain ⟨b0,h0⟩ := h 0 a rfl
    refine ⟨b0 :: bs,by simp [hl],fun i x b hx hb' => ?_⟩
    cases i with
    | zero => cases hx; cases hb'; exact h0
    | succ i => exact hb i x b (by simpa using hx) (by simpa using hb')
theorem get_ex {α β : Type} {xs : List α} {ys : List β} {i : Nat} {x : α} (hl : ys.length = xs.length) (h : xs[i]? = some x) : ∃ y,ys[i]? = some y := by
  have := (List.getElem?_eq_some_iff.mp h).1
  exact ⟨ys[i],List.getElem?_eq_getElem (by omega)⟩
theorem map_of {ys : List V} {gs : Crn} (hl : gs.length = ys.length) (h : ∀ (i : Nat) x g,ys[i]? = some x → gs[i]? = some g → x = .ref g.1) : ys = gs.map fun q => V.ref q.1 := by
  refine List.ext_getElem? fun i => ?_
  rw [List.getElem?_map]
  by_cases hi : i < ys.length
  · rw [List.getElem?_eq_getElem hi,List.getElem?_eq_getElem (show i < gs.length by omega),h i _ _ (List.getElem?_eq_getElem hi) (List.getElem?_eq_getElem (show i < gs.length by omega))]
    rfl
  · rw [List.getElem?_eq_none (by omega),List.getElem?_eq_none (by omega)]
    rfl
def spNoL : Sp := fun vs H Q _ => ∃ (l : Addr) (fs : Crn),vs = [.ref l] ∧ Frs H l fs ∧ (1 ≤ fs.length ∧ fs.length < 900) ∧ ∀ (k : Nat) (p : Addr × Int × Int) (H' : Hp),fs[k]? = some p → (∀ q ∈ fs,leF p q) → (∀ (j : Nat) q,j < k → fs[j]? = some q → ¬ leF q p) → Same H H' → Q (.int (k : Int)) H'
def spNoG : Sp := fun vs H Q _ => ∃ (l : Addr) (fs : Crn),vs = [.ref l] ∧ Frs H l fs ∧ (1 ≤ fs.length ∧ fs.length < 900) ∧ ∀ (k : Nat) (p : Addr × Int × Int) (H' : Hp),fs[k]? = some p → (∀ q ∈ fs,leF q p) → Same H H' → Q (.int (k : Int)) H'
theorem sm_bits {x : Int} (h : Sm x) : bits x ≤ 50 := by
  have h' : -999999999999 ≤ x ∧ x ≤ 999999999999 := h
  exact bits_of (n := 50) (by show _ < 1125899906842624; omega)
theorem _root_.Sp7.LineM.la {H : Hp} {l : Addr} {qs : Crn} (L : LineM H l qs) : LineAt H l qs := ⟨L.lst,fun q hq => ⟨(L.crn q hq).1,sm_bits (L.crn q hq).2.1,sm_bits (L.crn q hq).2.2⟩⟩
theorem _root_.Wk.PrAt.plx {H : Hp} {q : Pr} {n m : Int} (h : PrAt H q) (hi : inB n m q = true) (hn : n ≤ 100) : Plc H q.x q.a q.b n := by
  unfold inB at hi
  rw [Bool.and_eq_true,decide_eq_true_eq,decide_eq_true_eq] at hi
  have hb : 0 < q.b := h.lx.pos
  refine ⟨h.x_,h.lx,h.nx,hi.1,?_,bits_le h.bb (by decide)⟩
  have h2 : n * q.b ≤ 100 * q.b := Int.mul_le_mul_of_nonneg_right hn (by omega)
  have h3 : bits (100 * q.b) ≤ 7 + 60 := bits_mul (by decide) h.bb
  exact bits_le (bits_range h.nx (by omega) h3) (by decide)
theorem _root_.Wk.PrAt.ply {H : Hp} {q : Pr} {n m : Int} (h : PrAt H q) (hi : inB n m q = true) (hm : m ≤ 100) : Plc H q.y q.c q.d m := by
  unfold inB at hi
  rw [Bool.and_eq_true,decide_eq_true_eq,decide_eq_true_eq] at hi
  have hb : 0 < q.d := h.ly.pos
  refine ⟨h.y_,h.ly,h.ny,hi.2,?_,bits_le h.bd (by decide)⟩
  have h2 : m * q.d ≤ 100 * q.d := Int.mul_le_mul_of_nonneg_right hm (by omega)
  have h3 : bits (100 * q.d) ≤ 7 + 60 := bits_mul (by decide) h.bd
  exact bits_le (bits_range h.ny (by omega) h3) (by decide)
theorem walk_all {n m : Int} {w : Str} {ps : List Pr} (h : walkB n m w ps = true) : ps ≠ [] ∧ ∀ q ∈ ps,inB n m q = true := by
  cases ps with
  | nil => cases h
  | cons f r =>
    rw [walkB_cons,Bool.and_eq_true] at h
    exact ⟨by simp,List.all_eq_true.mp h.1⟩
def spWSq (C : Addr) : Sp := fun vs H Q E => ∃ (l1 l2 l : Addr) (qs rs : Crn) (ps : List Pr) (wy : Str),vs = [.ref l1,.ref l2,.ref l,.str wy] ∧ (LineAt H l1 qs ∧ 1 ≤ qs.length ∧ qs.length ≤ 20) ∧ (LineAt H l2 rs ∧ 1 ≤ rs.length ∧ rs.length ≤ 20) ∧ PairsAt H l ps ∧ ps.length < 900 ∧ isWay wy ∧
  (walkB (lst_ qs) (lst_ rs) wy ps = false → ∀ H',Same H H' → E (.ref C) none H') ∧
  (walkB (lst_ qs) (lst_ rs) wy ps = true → ∀ (r : Addr) (s w : Int) (H' : Hp),Fr2 H' r s w 1463 → MaxSq qs rs ps s w → Same H H' → Q (.ref r) H')
def spLS15 : Sp := fun vs H Q _ => ∃ (l p l' p' : Addr) (qs qs' : Crn) (t b t' b' : Int),vs = [.ref l,.ref p,.ref l',.ref p'] ∧ LineAt H l qs ∧ LineAt H l' qs' ∧ (1 ≤ qs.length ∧ qs.length ≤ 20) ∧ (1 ≤ qs'.length ∧ qs'.length ≤ 20) ∧ Plc H p t b (lst_ qs) ∧ Plc H p' t' b' (lst_ qs') ∧
  ∀ (r : Addr) (s w : Int) (H' : Hp),Frac (sqF qs t b qs' t' b') (sqD b b') s w → Fr2 H' r s w 1463 → Same H H' → Q (.ref r) H'
def spLWS : Sp := fun vs H Q _ => ∃ (l1 l2 l : Addr) (qs rs : Crn) (ps : List Pr),vs = [.ref l1,.ref l2,.ref l] ∧ (LineAt H l1 qs ∧ 1 ≤ qs.length ∧ qs.length ≤ 20) ∧ (LineAt H l2 rs ∧ 1 ≤ rs.length ∧ rs.length ≤ 20) ∧ PairsAt H l ps ∧ (ps ≠ [] ∧ ∀ q ∈ ps,inB (lst_ qs) (lst_ rs) q = true) ∧
  ∀ (r : Addr) (s w : Int) (H' : Hp),Fr2 H' r s w 1463 → MaxSq qs rs ps s w → Same H H' → Q (.ref r) H'
theorem S_number_of_least : FnScope ["fractions","found","number","fraction"] ["fractions"] (defScope (top 19)) := ⟨rfl,rfl,rfl,by decide +kernel,rfl,by decide +kernel,by decide +kernel⟩
theorem fn_number_of_least (D_number_of_least : Df K mg "number_of_least" (top 19)) (F_less : Fn P w K mg base "less" ["a","b"] 1 spLess) (T : Txt mg) : Fn P w K mg base "number_of_least" ["fractions"] 2 spNoL := by
  refine D_number_of_least.fn S_number_of_least (fun _ _ _ _ _ _ us hl => by obtain ⟨_,rfl⟩ := len1 hl; rfl) (fun vs H Q E h => ?_) (fun f cdv A outer s H vs Q E hr h => ?_)
  · obtain ⟨l,fs,rfl,_⟩ := h
    rfl
  · obtain ⟨l,fs,rfl,F0,⟨h1,h9⟩,q⟩ := h
    refine ⟨_,(pss_cons (ps_set (i := 1) S_number_of_least.nd rfl (Or.inl rfl) pe_int) (pss_cons (ps_for PassesOwn.never rfl (pi_enum rfl T.z_enumerate (pa_cons (pv 0) pa_nil)) (pg_tup rfl (pgs_cons (pg_name (i := 2) S_number_of_least.nd rfl (Or.inl rfl)) (pgs_cons (pg_name (i := 3) S_number_of_least.nd rfl (Or.inl rfl)) pgs_nil))) (pss_one (ps_if (pt_val (pe_fn F_less (hr.mono (by decide)) (by rfl) (pa_cons (pv 3) (pa_cons (pe_ix ix_list (pv 0) (pv 1) (fun _ _ => rfl)) pa_nil)))) (pss_one (ps_set (i := 1) S_number_of_least.nd rfl (Or.inl rfl) (pv 2))) pss_nil))) (pss_one (ps_ret (pv 1))))),?_⟩
    have hll : (fs.map fun (q : Addr × Int × Int) => V.ref q.1).length = fs.length := List.length_map _
    refine ⟨_,rfl,l,rfl,⟨_,SqL.of F0.lst⟩,for_enum (K := K) (a := l) (xs := fs.map fun (q : Addr × Int × Int) => V.ref q.1) (fun i σ H3 => ∃ (z1 z2 : Option V) (k : Nat) (p : Addr × Int × Int),σ = [some (.ref l),some (.int (k : Int)),z1,z2] ∧ fs[k]? = some p ∧ (∀ (j : Nat) q,j < i → fs[j]? = some q → leF p q) ∧ (∀ (j : Nat) q,j < k → fs[j]? = some q → ¬ leF q p) ∧ (k ≤ i) ∧ Same H H3)
      ⟨_,_,0,fs[0],rfl,List.getElem?_eq_getElem (by omega),fun j q h => absurd h (by omega),fun j q h => absurd h (by omega),Nat.le_refl _,Same.refl _⟩ (fun i σ H3 _ ⟨_,_,_,_,_,_,_,_,_,s3⟩ => SqL.of (s3 _ _ F0.lst)) ?_ ?_⟩
    · rintro i x pp σ H3 H4 hx ⟨z1,z2,k,p,rfl,hk,hle,hlt,hki,s3⟩ s4 f4
      rw [List.getElem?_map] at hx
      obtain ⟨u,hu,rfl⟩ := Option.map_eq_some_iff.mp hx
      have F4 := F0.mono (s3.trans s4)
      have fu := F4.fr u (List.mem_of_getElem? hu)
      have fp := F4.fr p (List.mem_of_getElem? hk)
      have ea : atI (fs.map fun (q : Addr × Int × Int) => V.ref q.1) (k : Int) = some (.ref p.1) := atI_nat (by rw [List.getElem?_map,hk]; rfl)
      refine ⟨pp,_,rfl,SqT.of f4,rfl,_,_,rfl,_,_,rfl,rfl,?_⟩
      refine ⟨_,rfl,_,rfl,_,rfl,l,_,_,_,rfl,rfl,SqL.of F4.lst,ea,u.1,p.1,_,_,_,_,rfl,fu.1,fp.1,⟨fu.2.2.1,fu.2.2.2,fp.2.2.1,fp.2.2.2⟩,_,rfl,ite3 (fun c => ?_) (fun c => ?_)⟩
      · have c : u.2.1 * p.2.2 < p.2.1 * u.2.2 := dec_t c
        refine ⟨_,rfl,_,_,i,u,rfl,hu,fun j v hj hv => ?_,fun j v hj hv z => ?_,Nat.le_succ _,s3.trans s4⟩
        · by_cases hji : j = i
          · subst hji
            rw [hu] at hv
            cases hv
            exact Int.le_refl _
          · exact leF_trans fp.2.1 fu.2.1 (F4.fr v (List.mem_of_getElem? hv)).2.1 (Int.le_of_lt c) (hle j v (by omega) hv)
        · have := leF_trans (F4.fr v (List.mem_of_getElem? hv)).2.1 fp.2.1 fu.2.1 (hle j v hj hv) z
          unfold leF at this
          omega
      · have c : ¬ u.2.1 * p.2.2 < p.2.1 * u.2.2 := dec_f c
        refine ⟨_,_,k,p,rfl,hk,fun j v hj hv => ?_,hlt,by omega,s3.trans s4⟩
        by_cases hji : j = i
        · subst hji
          rw [hu] at hv
          cases hv
          unfold leF
          omega
        · exact hle j v (by omega) hv
    · rintro σ H3 ⟨z1,z2,k,p,rfl,hk,hle,hlt,hki,s3⟩
      refine ⟨_,rfl,q k p H3 hk (fun r hr => ?_) hlt s3⟩
      obtain ⟨j,hj,e⟩ := List.getElem_of_mem hr
      exact hle j r (by rw [hll]; exact hj) (by rw [List.getElem?_eq_getElem hj,e])
theorem S_number_of_greatest : FnScope ["fractions"] ["fractions"] (defScope (top 20)) := ⟨rfl,rfl,rfl,by decide +kernel,rfl,by decide +kernel,by decide +kernel⟩
theorem fn_number_of_greatest (D_number_of_greatest : Df K mg "number_of_greatest" (top 20)) (F_number_of_least : Fn P w K mg base "number_of_least" ["fractions"] 2 spNoL) : Fn P w K mg base "number_of_greatest" ["fractions"] 3 spNoG := by
  refine D_number_of_greatest.fn S_number_of_greatest (fun _ _ _ _ _ _ us hl => by obtain ⟨_,rfl⟩ := len1 hl; rfl) (fun vs H Q E h => ?_) (fun f cdv A outer s H vs Q E hr h => ?_)
  · obtain ⟨l,fs,rfl,_⟩ := h
    rfl
  · obtain ⟨l,fs,rfl,F0,⟨h1,h9⟩,q⟩ := h
    have CN : CompN (cxOf CX0 P w K mg base ["fractions"] "number_of_greatest" (defScope (top 20)) f cdv A outer s H E).nox (Dr.compScope (retExpr ((defBody (top 20)).getD 0 (.Pass ⟨0,0,0,0⟩)))) [] "fraction" [] :=
      ⟨by rfl,rfl,by decide +kernel,by decide +kernel,rfl,(fun p hp => nomatch hp),by rfl,by decide +kernel,(fun p hp => nomatch hp),⟨rfl,rfl⟩,rfl⟩
    refine ⟨_,(pss_one (ps_ret (pe_fn F_number_of_least (hr.mono (by decide)) (by rfl) (pa_cons (pe_compA rfl CN (pi_list (pv 0)) (fun fp s₀ H₀ => (pe_tupA (pa_cons (pe_un un_neg (pe_ix (ix_tupK (K := K) rfl) (pv 0) pe_int (fun _ _ => rfl))) (pa_cons (pe_ix (ix_tupK (K := K) rfl) (pv 0) pe_int (fun _ _ => rfl)) pa_nil))))) pa_nil)))),?_⟩
    refine ⟨_,rfl,l,rfl,⟨_,SqL.of F0.lst⟩,comp_R (SqL.of F0.lst) (by rw [List.length_map]; omega) (fun i v H' => ∃ (pa : Addr) (u : Addr × Int × Int),v = .ref pa ∧ fs[i]? = some u ∧ H' pa = some (.tup [.int (-u.2.1),.int u.2.2])) (fun i v H H' st ⟨pa,u,e,hu,c⟩ => ⟨pa,u,e,hu,st _ _ c⟩) ?_ ?_⟩
    · intro i x H2 Kc hx s2 kk
      rw [List.getElem?_map] at hx
      obtain ⟨u,hu,rfl⟩ := Option.map_eq_some_iff.mp hx
      have c := s2 _ _ (F0.fr u (List.mem_of_getElem? hu)).1
      refine ⟨_,rfl,u.1,_,_,_,rfl,rfl,SqT.of c,rfl,_,rfl,_,rfl,u.1,_,_,_,rfl,rfl,SqT.of c,rfl,sz (by simp),fun pp H3 s3 f3 n3 => kk _ _ s3 ⟨pp,u,rfl,hu,f3⟩⟩
    · intro l2 ys H9 nl2 s9 f9 hly hr
      rw [List.length_map] at hly
      obtain ⟨gs,hgl,hg⟩ := list_of (β := Addr × Int × Int) ys (fun i v g => v = .ref g.1 ∧ ∃ u,fs[i]? = some u ∧ g.2.1 = -u.2.1 ∧ g.2.2 = u.2.2 ∧ H9 g.1 = some (.tup [.int g.2.1,.int g.2.2])) fun i x hx => by
        obtain ⟨pa,u,rfl,hu,c⟩ := hr i x hx
        exact ⟨(pa,-u.2.1,u.2.2),rfl,u,hu,rfl,rfl,c⟩
      have hgi : ∀ (i : Nat) g,gs[i]? = some g → ∃ u,fs[i]? = some u ∧ g.2.1 = -u.2.1 ∧ g.2.2 = u.2.2 ∧ H9 g.1 = some (.tup [.int g.2.1,.int g.2.2]) := fun i g hg' => by
        obtain ⟨y,hy⟩ := get_ex hgl.symm hg'
        exact (hg i y g hy hg').2
      have F9 : Frs H9 l2 gs := by
        refine ⟨by rw [f9]; exact congrArg _ (congrArg _ (map_of hgl fun i x g hx hg' => (hg i x g hx hg').1)),fun g hgm => ?_⟩
        obtain ⟨i,hi,e⟩ := List.getElem_of_mem hgm
        obtain ⟨u,hu,e1,e2,c⟩ := hgi i g (by rw [List.getElem?_eq_getElem hi,e])
        have fu := F0.fr u (List.mem_of_getElem? hu)
        exact ⟨c,by rw [e2]; exact fu.2.1,by rw [e1]; exact bits_neg fu.2.2.1,by rw [e2]; exact fu.2.2.2⟩
      refine ⟨l2,gs,rfl,F9,⟨by omega,by omega⟩,fun k p H' hk hle _ s' => ?_⟩
      obtain ⟨u,hu,e1,e2,_⟩ := hgi k p hk
      refine q k u H' hu (fun v hv => ?_) (s9.trans s')
      obtain ⟨j,hj,e⟩ := List.getElem_of_mem hv
      have hj' : fs[j]? = some v := by rw [List.getElem?_eq_getElem hj,e]
      obtain ⟨g,hg'⟩ := get_ex (ys := gs) (by omega) hj'
      obtain ⟨v',hv',f1,f2,_⟩ := hgi j g hg'
      rw [hj'] at hv'
      cases hv'
      have z := hle g (List.mem_of_getElem? hg')
      unfold leF at z ⊢
      rw [e1,e2,f1,f2,Int.neg_mul,Int.neg_mul] at z
      omega
theorem S_walk_square : FnScope ["one","other","walk","way","squares"] ["one","other","walk","way"] (defScope (top 88)) := ⟨rfl,rfl,rfl,by decide +kernel,rfl,by decide +kernel,by decide +kernel⟩
theorem fn_walk_square {C C2 C9 : Addr} (D_walk_square : DfD K mg "walk_square" (top 88) [.str "on"]) (O_NoWalk : ExcC K mg "NoWalk" C9) (F_is_walk : Fx P w K mg base "is_walk" ["one","other","thing","way"] 7 [.str "on"] (spIsWalk C)) (F_square_of : Fx P w K mg base "square_of" ["one","x","other","y"] 6 [] (spSquare C2)) (F_number_of_greatest : Fn P w K mg base "number_of_greatest" ["fractions"] 3 spNoG) : Fx P w K mg base "walk_square" ["one","other","walk","way"] 8 [.str "on"] (spWSq C9) := by
  refine D_walk_square.fx S_walk_square (fun T kV doc pm an cdv ct us its oT n s hv hl ho hs => ?_) (fun T kV doc pm an cdv ct us its oT n s hv hl ho hs => ?_) (fun vs H Q E h => ?_) (fun f cdv A outer s H vs Q E hr h => ?_)
  · obtain ⟨u,rfl,_⟩ := vals1 hv
    match us,hl with
    | [_,_,_,_],_ => exact BindsTo.of_defaults rfl ho hs rfl rfl
  · obtain ⟨u,rfl,_⟩ := vals1 hv
    have hl1 : us.length = 3 := by simpa using hl
    match us,hl1 with
    | [_,_,_],_ => exact BindsTo.of_defaults rfl ho hs rfl rfl
  · obtain ⟨l1,l2,l,qs,rs,ps,wy,rfl,_⟩ := h
    rfl
  · obtain ⟨l1,l2,l,qs,rs,ps,wy,rfl,⟨L1,h1,h20⟩,⟨L2,g1,g20⟩,PP,hlen,hw,kE,kQ⟩ := h
    have hql : (qs.map fun (q : Addr × Int × Int) => V.ref q.1).length = qs.length := List.length_map _
    have hrl : (rs.map fun (q : Addr × Int × Int) => V.ref q.1).length = rs.length := List.length_map _
    have CN : CompN (cxOf (CXE P w) P w K mg base ["one","other","walk","way","squares"] "walk_square" (defScope (top 88)) f cdv A outer s H E) (setScope ((defBody (top 88)).getD 1 (.Pass ⟨0,0,0,0⟩))) [("other",s.heap.objs.size + 2),("one",s.heap.objs.size + 1)] "pair" [("one",0),("other",1)] :=
      ⟨by rfl,rfl,by decide +kernel,by decide +kernel,rfl,(fun p hp => by simp only [List.mem_cons,List.not_mem_nil,or_false] at hp; rcases hp with rfl | rfl <;> rfl),by rfl,by decide +kernel,(fun p hp => by simp only [List.mem_cons,List.not_mem_nil,or_false] at hp; rcases hp with rfl | rfl <;> exact ⟨rfl,rfl,.inr (.inl rfl),rfl,rfl⟩),⟨rfl,rfl⟩,rfl⟩
    refine ⟨_,(pss_cons (ps_if (pt_not (pt_val (pe_fx F_is_walk (hr.mono (by decide)) (by rfl) (pa_cons (pv 0) (pa_cons (pv 1) (pa_cons (pv 2) (pa_cons (pv 3) pa_nil))))))) (pss_one (ps_raise O_NoWalk (by rfl))) pss_nil) (pss_cons (ps_setCompA (j := 4) rfl CN S_walk_square.nd rfl rfl (pi_list (pv 2)) (fun fp s₀ H₀ => (pe_fx0 F_square_of (hr.mono (by decide)) (by rfl) (pa_cons (pv 1) (pa_cons (pe_ix (ix_tupK (K := K) rfl) (pv 0) pe_int (fun _ _ => rfl)) (pa_cons (pv 2) (pa_cons (pe_ix (ix_tupK (K := K) rfl) (pv 0) pe_int (fun _ _ => rfl)) pa_nil))))))) (pss_one (ps_ret (pe_ix ix_list (pv 4) (pe_fn F_number_of_greatest (hr.mono (by decide)) (by rfl) (pa_cons (pv 4) pa_nil)) (fun _ _ => rfl)))))),?_⟩
    refine ⟨_,rfl,_,rfl,_,rfl,_,rfl,l1,l2,_,_,_,_,_,rfl,⟨L1.lst,by rw [hql]; omega⟩,⟨L2.lst,by rw [hrl]; omega⟩,PP.th hlen,.str _,.inl ⟨wy,rfl,hw,fun b H1 s1 wv => ⟨_,rfl,ite3 (fun c => ?_) (fun c => ?_)⟩⟩⟩
    · have hb : b = false := by simpa only [Bool.not_eq_true'] using c
      rw [hql,hrl] at wv
      exact kE (by rw [← hb]; exact (walkV_eq PP wv).symm) H1 s1
    have hb : b = true := by simpa only [Bool.not_eq_false'] using c
    rw [hql,hrl] at wv
    have hwB : walkB (lst_ qs) (lst_ rs) wy ps = true := by rw [← hb]; exact (walkV_eq PP wv).symm
    obtain ⟨hne,hin⟩ := walk_all hwB
    have P1 := PP.mono s1
    refine ⟨_,rfl,l,rfl,⟨_,SqL.of P1.lst⟩,comp_R (SqL.of P1.lst) (by rw [prs_len]; omega) (fun i v H' => ∃ (q : Pr) (r : Addr) (s w : Int),v = .ref r ∧ ps[i]? = some q ∧ Frac (sqF qs q.a q.b rs q.c q.d) (sqD q.b q.d) s w ∧ (bits s ≤ 1463 ∧ bits w ≤ 1463) ∧ H' r = some (.tup [.int s,.int w])) (fun i v H H' st ⟨q,r,s,w,e,hq,fr,bd,c⟩ => ⟨q,r,s,w,e,hq,fr,bd,st _ _ c⟩) ?_ ?_⟩
    · intro i x H2 Kc hx s2 kk
      obtain ⟨q,hq,rfl⟩ := prs_get hx
      have mq := List.mem_of_getElem? hq
      have pq := (P1.mono s2).pr q mq
      have hi := hin q mq
      have plx := pq.plx hi (show lst_ qs ≤ 100 by unfold lst_; omega)
      have ply := pq.ply hi (show lst_ rs ≤ 100 by unfold lst_; omega)
      refine ⟨_,rfl,_,rfl,q.p,_,_,_,rfl,rfl,SqT.of pq.p_,rfl,_,rfl,_,rfl,q.p,_,_,_,rfl,rfl,SqT.of pq.p_,rfl,l1,l2,qs,rs,_,_,rfl,(L1.mono s1).mono s2,(L2.mono s1).mono s2,⟨h1,h20⟩,⟨g1,g20⟩,plx.th,ply.th,.inr ⟨q.x,q.a,q.b,rfl,plx,.inr ⟨q.y,q.c,q.d,rfl,ply,fun r s' w' H3 fr f3 s3 => ?_⟩⟩⟩
      exact kk _ _ s3 ⟨q,r,s',w',rfl,hq,fr,⟨f3.ba,f3.bb⟩,f3.at_⟩
    · intro l5 ys H9 nl5 s9 f9 hly hr
      rw [prs_len] at hly
      obtain ⟨gs,hgl,hg⟩ := list_of (β := Addr × Int × Int) ys (fun i v g => v = .ref g.1 ∧ ∃ q,ps[i]? = some q ∧ Frac (sqF qs q.a q.b rs q.c q.d) (sqD q.b q.d) g.2.1 g.2.2 ∧ (bits g.2.1 ≤ 1463 ∧ bits g.2.2 ≤ 1463) ∧ H9 g.1 = some (.tup [.int g.2.1,.int g.2.2])) fun i x hx => by
        obtain ⟨q,r,s',w',rfl,hq,fr,bd,c⟩ := hr i x hx
        exact ⟨(r,s',w'),rfl,q,hq,fr,bd,c⟩
      have hgi : ∀ (i : Nat) g,gs[i]? = some g → ∃ q,ps[i]? = some q ∧ Frac (sqF qs q.a q.b rs q.c q.d) (sqD q.b q.d) g.2.1 g.2.2 ∧ (bits g.2.1 ≤ 1463 ∧ bits g.2.2 ≤ 1463) ∧ H9 g.1 = some (.tup [.int g.2.1,.int g.2.2]) := fun i g hg' => by
        obtain ⟨y,hy⟩ := get_ex hgl.symm hg'
        exact (hg i y g hy hg').2
      have F9 : Frs H9 l5 gs := by
        refine ⟨by rw [f9]; exact congrArg _ (congrArg _ (map_of hgl fun i x g hx hg' => (hg i x g hx hg').1)),fun g hgm => ?_⟩
        obtain ⟨i,hi,e⟩ := List.getElem_of_mem hgm
        obtain ⟨q,hq,fr,bd,c⟩ := hgi i g (by rw [List.getElem?_eq_getElem hi,e])
        exact ⟨c,fr.low.pos,bits_le bd.1 (by decide),bits_le bd.2 (by decide)⟩
      have hp0 : 0 < ps.length := List.length_pos_iff.mpr hne
      refine ⟨_,rfl,_,rfl,l5,gs,rfl,F9,⟨by omega,by omega⟩,fun k p H' hk hle s' => ?_⟩
      have F10 := F9.mono s'
      obtain ⟨q,hq,fr,bd,c⟩ := hgi k p hk
      refine ⟨l5,_,_,_,rfl,rfl,SqL.of F10.lst,atI_nat (j := k) (v := .ref p.1) (by rw [List.getElem?_map,hk]; rfl),kQ hwB p.1 p.2.1 p.2.2 H' ⟨(F10.fr p (List.mem_of_getElem? hk)).1,fr.low,bd.1,bd.2⟩ ⟨fr.low,fun u hu => ?_,q,List.mem_of_getElem? hq,fr.eq⟩ (s1.trans (s9.trans s'))⟩
      obtain ⟨j,hj,e⟩ := List.getElem_of_mem hu
      have hj' : ps[j]? = some u := by rw [List.getElem?_eq_getElem hj,e]
      obtain ⟨g,hg'⟩ := get_ex (ys := gs) (by omega) hj'
      obtain ⟨u',hu',fr',_,_⟩ := hgi j g hg'
      rw [hj'] at hu'
      cases hu'
      have pu := PP.pr u hu
      exact frac_up (sqD_pos pu.lx.pos pu.ly.pos) fr'.low.pos fr'.eq (hle g (List.mem_of_getElem? hg'))
theorem S_law_point_at : FnScope ["line","place","at","rest","x","y"] ["line","place"] (defScope (top 111)) := ⟨rfl,rfl,rfl,by decide +kernel,rfl,by decide +kernel,by decide +kernel⟩
theorem fn_law_point_at (D_law_point_at : Df K mg "_law_point_at" (top 111)) : Fn P w K mg base "_law_point_at" ["line","place"] 1 spLPt := by
  refine D_law_point_at.fn S_law_point_at (fun _ _ _ _ _ _ us hl => by obtain ⟨_,_,rfl⟩ := len2 hl; rfl) (fun vs H Q E h => ?_) (fun f cdv A outer s H vs Q E hr h => ?_)
  · obtain ⟨l,p,qs,t,b,rfl,_⟩ := h
    rfl
  · obtain ⟨l,p,qs,t,b,rfl,L,h1,pl,k⟩ := h
    refine ⟨_,(pss_cons (ps_set (i := 2) S_law_point_at.nd rfl (Or.inl rfl) (pe_op op_fdivP (pe_ix ix_tup (pv 1) pe_int (fun _ _ => rfl)) (pe_ix ix_tup (pv 1) pe_int (fun _ _ => rfl)))) (pss_cons (ps_set (i := 3) S_law_point_at.nd rfl (Or.inl rfl) (pe_op op_mod (pe_ix ix_tup (pv 1) pe_int (fun _ _ => rfl)) (pe_ix ix_tup (pv 1) pe_int (fun _ _ => rfl)))) (pss_cons (ps_if (pt_cmpR op_eq (pv 3) pe_int (nomark _)) (pss_one (ps_ret (pe_tupA (pa_cons (pe_ix ix_tup (pe_ix ix_list (pv 0) (pv 2) (fun _ _ => rfl)) pe_int (fun _ _ => rfl)) (pa_cons (pe_ix ix_tup (pe_ix ix_list (pv 0) (pv 2) (fun _ _ => rfl)) pe_int (fun _ _ => rfl)) (pa_cons pe_int pa_nil)))))) pss_nil) (pss_cons (ps_set (i := 4) S_law_point_at.nd rfl (Or.inl rfl) (pe_op op_add (pe_op op_mulX (pe_ix ix_tup (pe_ix ix_list (pv 0) (pv 2) (fun _ _ => rfl)) pe_int (fun _ _ => rfl)) (pe_op op_sub (pe_ix ix_tup (pv 1) pe_int (fun _ _ => rfl)) (pv 3))) (pe_op op_mulX (pe_ix ix_tup (pe_ix ix_list (pv 0) (pe_op op_add (pv 2) pe_int) (fun _ _ => rfl)) pe_int (fun _ _ => rfl)) (pv 3)))) (pss_cons (ps_set (i := 5) S_law_point_at.nd rfl (Or.inl rfl) (pe_op op_add (pe_op op_mulX (pe_ix ix_tup (pe_ix ix_list (pv 0) (pv 2) (fun _ _ => rfl)) pe_int (fun _ _ => rfl)) (pe_op op_sub (pe_ix ix_tup (pv 1) pe_int (fun _ _ => rfl)) (pv 3))) (pe_op op_mulX (pe_ix ix_tup (pe_ix ix_list (pv 0) (pe_op op_add (pv 2) pe_int) (fun _ _ => rfl)) pe_int (fun _ _ => rfl)) (pv 3)))) (pss_one (ps_ret (pe_tupA (pa_cons (pv 4) (pa_cons (pv 5) (pa_cons (pe_ix ix_tup (pv 1) pe_int (fun _ _ => rfl)) pa_nil))))))))))),?_⟩
    have hb : (0 : Int) < b := pl.low.pos
    have e := pl.at_
    have hll : (qs.map fun (q : Addr × Int × Int) => V.ref q.1).length = qs.length := List.length_map _
    have q0 : 0 ≤ t / b := fl_nn hb pl.lo
    have qn : t / b ≤ (qs.length : Int) - 1 := Int.ediv_le_of_le_mul hb pl.hi
    have m0 := Int.emod_nonneg t (show b ≠ 0 by omega)
    have m1 := Int.emod_lt_of_pos t hb
    have em := Int.emod_add_mul_ediv t b
    have atq : ∀ (j : Nat) (k : Int),k = (j : Int) → j < qs.length → atI (qs.map fun (q : Addr × Int × Int) => V.ref q.1) k = some (.ref (qs.getD j (0,0,0)).1) ∧ qs.getD j (0,0,0) ∈ qs := fun j k ek hj => by
      have e1 : qs.getD j (0,0,0) = qs[j] := by rw [List.getD_eq_getElem?_getD,List.getElem?_eq_getElem hj]; rfl
      rw [e1]
      subst ek
      exact ⟨atI_nat (by rw [List.getElem?_map,List.getElem?_eq_getElem hj]; rfl),List.getElem_mem hj⟩
    obtain ⟨a0,mm0⟩ := atq (t / b).toNat (t / b) (by omega) (by omega)
    have c0 := L.crn _ mm0
    refine ⟨_,rfl,p,_,_,_,rfl,rfl,SqT.of e,rfl,_,rfl,p,_,_,_,rfl,rfl,SqT.of e,rfl,_,_,rfl,rfl,⟨hb,bits_le pl.bb (by decide)⟩,?_⟩
    refine ⟨_,rfl,p,_,_,_,rfl,rfl,SqT.of e,rfl,_,rfl,p,_,_,_,rfl,rfl,SqT.of e,rfl,_,_,rfl,rfl,hb,?_⟩
    refine ⟨_,rfl,rfl,_,rfl,ite3 (fun c => ?_) (fun c => ?_)⟩
    · have hr : t % b = 0 := by
        have := dec_t c
        injection this
      have hb1 : b = 1 := by
        have d : (b.natAbs) ∣ (Int.gcd t b) := Int.dvd_gcd (Int.natAbs_dvd.mpr (Int.dvd_of_emod_eq_zero hr)) (Int.natAbs_dvd.mpr (Int.dvd_refl b))
        rw [pl.low.one] at d
        have := Nat.le_of_dvd (by decide) d
        omega
      subst hb1
      refine ⟨_,rfl,_,rfl,l,_,_,_,rfl,rfl,SqL.of L.lst,a0,_,_,_,_,rfl,rfl,SqT.of c0.1,rfl,_,rfl,_,rfl,l,_,_,_,rfl,rfl,SqL.of L.lst,a0,_,_,_,_,rfl,rfl,SqT.of c0.1,rfl,sz (by simp),fun r H1 s1 f1 n1 => k r H1 ?_ s1⟩
      rw [f1]
      unfold ptX ptY Sp3.numAt side0
      rw [hr]
      simp
    · have hr : ¬ t % b = 0 := fun z => by
        have c' : decide (V.int (t % b) = V.int 0) = false := c
        rw [z] at c'
        exact absurd c' (by decide)
      have hlt : t / b < (qs.length : Int) - 1 := by
        rcases Int.lt_or_eq_of_le qn with h | h
        · exact h
        · exfalso
          have := pl.hi
          unfold lst_ at this
          rw [h,Int.mul_comm] at em
          omega
      obtain ⟨a1,mm1⟩ := atq ((t / b).toNat + 1) (t / b + 1) (by omega) (by omega)
      have c1 := L.crn _ mm1
      have em1 : min ((t / b).toNat + 1) (qs.length - 1) = (t / b).toNat + 1 := by omega
      have bm : bits (t % b) ≤ 120 := bits_emod hb pl.bb
      have bd : bits (b - t % b) ≤ 121 := bits_sub pl.bb bm
      refine ⟨_,rfl,_,rfl,l,_,_,_,rfl,rfl,SqL.of L.lst,a0,_,_,_,_,rfl,rfl,SqT.of c0.1,rfl,_,rfl,p,_,_,_,rfl,rfl,SqT.of e,rfl,_,rfl,_,_,rfl,rfl,_,_,rfl,rfl,CM.b c0.2.1 bd (by decide) (by decide),_,rfl,_,rfl,_,_,rfl,rfl,l,_,_,_,rfl,rfl,SqL.of L.lst,a1,_,_,_,_,rfl,rfl,SqT.of c1.1,rfl,_,rfl,_,_,rfl,rfl,CM.b c1.2.1 bm (by decide) (by decide),_,_,rfl,rfl,?_⟩
      refine ⟨_,rfl,_,rfl,l,_,_,_,rfl,rfl,SqL.of L.lst,a0,_,_,_,_,rfl,rfl,SqT.of c0.1,rfl,_,rfl,p,_,_,_,rfl,rfl,SqT.of e,rfl,_,rfl,_,_,rfl,rfl,_,_,rfl,rfl,CM.b c0.2.2 bd (by decide) (by decide),_,rfl,_,rfl,_,_,rfl,rfl,l,_,_,_,rfl,rfl,SqL.of L.lst,a1,_,_,_,_,rfl,rfl,SqT.of c1.1,rfl,_,rfl,_,_,rfl,rfl,CM.b c1.2.2 bm (by decide) (by decide),_,_,rfl,rfl,?_⟩
      refine ⟨_,rfl,_,rfl,_,rfl,p,_,_,_,rfl,rfl,SqT.of e,rfl,sz (by simp),fun r H1 s1 f1 n1 => k r H1 ?_ s1⟩
      have eX : (qs.getD (t / b).toNat (0,0,0)).2.1 * (b - t % b) + (qs.getD ((t / b).toNat + 1) (0,0,0)).2.1 * (t % b) = ptX qs t b := by
        unfold ptX Sp3.numAt side0 side1
        rw [em1]
        exact lin4 _ _ _ _
      have eY : (qs.getD (t / b).toNat (0,0,0)).2.2 * (b - t % b) + (qs.getD ((t / b).toNat + 1) (0,0,0)).2.2 * (t % b) = ptY qs t b := by
        unfold ptY Sp3.numAt side0 side1
        rw [em1]
        exact lin4 _ _ _ _
      rw [← eX,← eY]
      exact f1
theorem S_law_square_of : FnScope ["one","x","other","y","a","b","c","d","e","f"] ["one","x","other","y"] (defScope (top 112)) := ⟨rfl,rfl,rfl,by decide +kernel,rfl,by decide +kernel,by decide +kernel⟩
theorem fn_law_square_of (D_law_square_of : Df K mg "_law_square_of" (top 112)) (F_law_point_at : Fn P w K mg base "_law_point_at" ["line","place"] 1 spLPt) (F_law_ratio : Fn P w K mg base "_law_ratio" ["top","bottom"] 2 spLRat) : Fn P w K mg base "_law_square_of" ["one","x","other","y"] 3 spLS15 := by
  refine D_law_square_of.fn S_law_square_of (fun _ _ _ _ _ _ us hl => by obtain ⟨_,_,_,_,rfl⟩ := len4 hl; rfl) (fun vs H Q E h => ?_) (fun f cdv A outer s H vs Q E hr h => ?_)
  · obtain ⟨l,p,l',p',qs,qs',t,b,t',b',rfl,_⟩ := h
    rfl
  · obtain ⟨l,p,l',p',qs,qs',t,b,t',b',rfl,L,L',h1,h1',pl,pl',k⟩ := h
    refine ⟨_,(pss_cons (ps_asg (pe_fn F_law_point_at (hr.mono (by decide)) (by rfl) (pa_cons (pv 0) (pa_cons (pv 1) pa_nil))) (pg_tup rfl (pgs_cons (pg_name (i := 4) S_law_square_of.nd rfl (Or.inl rfl)) (pgs_cons (pg_name (i := 5) S_law_square_of.nd rfl (Or.inl rfl)) (pgs_cons (pg_name (i := 6) S_law_square_of.nd rfl (Or.inl rfl)) pgs_nil))))) (pss_cons (ps_asg (pe_fn F_law_point_at (hr.mono (by decide)) (by rfl) (pa_cons (pv 2) (pa_cons (pv 3) pa_nil))) (pg_tup rfl (pgs_cons (pg_name (i := 7) S_law_square_of.nd rfl (Or.inl rfl)) (pgs_cons (pg_name (i := 8) S_law_square_of.nd rfl (Or.inl rfl)) (pgs_cons (pg_name (i := 9) S_law_square_of.nd rfl (Or.inl rfl)) pgs_nil))))) (pss_one (ps_ret (pe_fn F_law_ratio (hr.mono (by decide)) (by rfl) (pa_cons (pe_op op_add (pe_op op_powX (pe_op op_sub (pe_op op_mulX (pv 4) (pv 9)) (pe_op op_mulX (pv 7) (pv 6))) pe_int) (pe_op op_powX (pe_op op_sub (pe_op op_mulX (pv 5) (pv 9)) (pe_op op_mulX (pv 8) (pv 6))) pe_int)) (pa_cons (pe_op op_mulX (pe_op op_mulX (pe_op op_mulX (pv 6) (pv 6)) (pv 9)) (pv 9)) pa_nil))))))),?_⟩
    have hb : (0 : Int) < b := pl.low.pos
    have hb' : (0 : Int) < b' := pl'.low.pos
    have B := pt_bits (t := t) L hb pl.bb
    have B' := pt_bits (t := t') L' hb' pl'.bb
    have cm : ∀ {u v : Int},bits u ≤ 182 → bits v ≤ 182 → CM u v := fun hu hv => CM.b hu hv (by decide) (by decide)
    have w120 : ∀ {u : Int},bits u ≤ 120 → bits u ≤ 182 := fun h => bits_le h (by decide)
    refine ⟨_,rfl,_,rfl,l,p,qs,t,b,rfl,L,h1,pl,fun ra H1 fa s1 => ?_⟩
    refine ⟨ra,_,rfl,SqT.of fa,rfl,_,_,rfl,_,_,rfl,_,_,rfl,rfl,?_⟩
    refine ⟨_,rfl,_,rfl,l',p',qs',t',b',rfl,L'.mono s1,h1',pl'.mono s1,fun rb H2 fb s2 => ?_⟩
    refine ⟨rb,_,rfl,SqT.of fb,rfl,_,_,rfl,_,_,rfl,_,_,rfl,rfl,?_⟩
    have bw : bits (ptX qs t b * b' - ptX qs' t' b' * b) ≤ 365 := bits_sub (bits_mul B.1 (w120 pl'.bb)) (bits_mul B'.1 (w120 pl.bb))
    have bh : bits (ptY qs t b * b' - ptY qs' t' b' * b) ≤ 365 := bits_sub (bits_mul B.2 (w120 pl'.bb)) (bits_mul B'.2 (w120 pl.bb))
    refine ⟨_,rfl,_,rfl,_,_,rfl,rfl,cm B.1 (w120 pl'.bb),_,rfl,_,rfl,_,_,rfl,rfl,cm B'.1 (w120 pl.bb),_,_,rfl,rfl,_,_,rfl,rfl,cpx2 bw (by decide),?_⟩
    refine ⟨_,rfl,_,rfl,_,_,rfl,rfl,cm B.2 (w120 pl'.bb),_,rfl,_,rfl,_,_,rfl,rfl,cm B'.2 (w120 pl.bb),_,_,rfl,rfl,_,_,rfl,rfl,cpx2 bh (by decide),_,_,rfl,rfl,?_⟩
    have b2 : bits (b * b) ≤ 240 := bits_mul pl.bb pl.bb
    have b3 : bits (b * b * b') ≤ 360 := bits_mul b2 pl'.bb
    have b4 : bits (b * b * b' * b') ≤ 480 := bits_mul b3 pl'.bb
    refine ⟨_,rfl,_,rfl,_,_,rfl,rfl,CM.b pl.bb pl.bb (by decide) (by decide),_,rfl,_,_,rfl,rfl,CM.b b2 pl'.bb (by decide) (by decide),_,rfl,_,_,rfl,rfl,CM.b b3 pl'.bb (by decide) (by decide),?_⟩
    have eN : (ptX qs t b * b' - ptX qs' t' b' * b) ^ (2 : Int).toNat + (ptY qs t b * b' - ptY qs' t' b' * b) ^ (2 : Int).toNat = sqF qs t b qs' t' b' := by
      show (ptX qs t b * b' - ptX qs' t' b' * b) ^ 2 + (ptY qs t b * b' - ptY qs' t' b' * b) ^ 2 = _
      unfold sqF sqN
      generalize ptX qs t b = X
      generalize ptX qs' t' b' = X'
      generalize ptY qs t b = Y
      generalize ptY qs' t' b' = Y'
      grind
    have eD : b * b * b' * b' = sqD b b' := by unfold sqD; grind
    have bN : bits (sqF qs t b qs' t' b') ≤ 731 := by
      rw [← eN]
      show bits ((ptX qs t b * b' - ptX qs' t' b' * b) ^ 2 + (ptY qs t b * b' - ptY qs' t' b' * b) ^ 2) ≤ 731
      rw [Int.pow_succ,Int.pow_succ,Int.pow_zero,Int.one_mul,Int.pow_succ,Int.pow_succ,Int.pow_zero,Int.one_mul]
      exact bits_add (bits_mul bw bw) (bits_mul bh bh)
    rw [eD] at b4
    have hD := sqD_pos hb hb'
    refine ⟨sqF qs t b qs' t' b',sqD b b',by rw [← eN,← eD]; rfl,⟨hD,bits_le b4 (by decide)⟩,fun r s' w' H3 fr es ew s3 f3 n3 => k r s' w' H3 fr ⟨f3,fr.low,?_,?_⟩ (s1.trans (s2.trans s3))⟩
    · rw [es]
      exact bits_le (bits_ediv (gcd_pos (by omega)) bN) (by decide)
    · rw [ew]
      exact bits_le (bits_ediv (gcd_pos (by omega)) b4) (by decide)
theorem S_law_walk_square : FnScope ["one","other","walk","most","x","y","here"] ["one","other","walk"] (defScope (top 113)) := ⟨rfl,rfl,rfl,by decide +kernel,rfl,by decide +kernel,by decide +kernel⟩
theorem fn_law_walk_square (D_law_walk_square : Df K mg "_law_walk_square" (top 113)) (F_law_square_of : Fn P w K mg base "_law_square_of" ["one","x","other","y"] 3 spLS15) (F_law_below : Fn P w K mg base "_law_below" ["one","other"] 1 spLess) : Fn P w K mg base "_law_walk_square" ["one","other","walk"] 4 spLWS := by
  refine D_law_walk_square.fn S_law_walk_square (fun _ _ _ _ _ _ us hl => by obtain ⟨_,_,_,rfl⟩ := len3 hl; rfl) (fun vs H Q E h => ?_) (fun f cdv A outer s H vs Q E hr h => ?_)
  · obtain ⟨l1,l2,l,qs,rs,ps,rfl,_⟩ := h
    rfl
  · obtain ⟨l1,l2,l,qs,rs,ps,rfl,⟨L1,h1,h20⟩,⟨L2,g1,g20⟩,PP,⟨hne,hin⟩,k⟩ := h
    refine ⟨_,(pss_cons (ps_set (i := 3) S_law_walk_square.nd rfl (Or.inl rfl) (pe_tupA (pa_cons pe_int (pa_cons pe_int pa_nil)))) (pss_cons (ps_for PassesOwn.never rfl (pi_list (pv 2)) (pg_tup rfl (pgs_cons (pg_name (i := 4) S_law_walk_square.nd rfl (Or.inl rfl)) (pgs_cons (pg_name (i := 5) S_law_walk_square.nd rfl (Or.inl rfl)) pgs_nil))) (pss_cons (ps_set (i := 6) S_law_walk_square.nd rfl (Or.inl rfl) (pe_fn F_law_square_of (hr.mono (by decide)) (by rfl) (pa_cons (pv 0) (pa_cons (pv 4) (pa_cons (pv 1) (pa_cons (pv 5) pa_nil)))))) (pss_one (ps_if (pt_val (pe_fn F_law_below (hr.mono (by decide)) (by rfl) (pa_cons (pv 3) (pa_cons (pv 6) pa_nil)))) (pss_one (ps_set (i := 3) S_law_walk_square.nd rfl (Or.inl rfl) (pv 6))) pss_nil)))) (pss_one (ps_ret (pv 3))))),?_⟩
    refine ⟨sz (by simp),fun p0 H1 s1 f1 n1 => ?_⟩
    have P1 := PP.mono s1
    refine ⟨_,rfl,l,rfl,⟨_,SqL.of P1.lst⟩,for_list (K := K) (a := l) (xs := prs ps) (fun i σ H2 => ∃ (z1 z2 z3 : Option V) (r : Addr) (s w : Int),σ = [some (.ref l1),some (.ref l2),some (.ref l),some (.ref r),z1,z2,z3] ∧ Fr2 H2 r s w 1463 ∧ (∀ (j : Nat) u,j < i → ps[j]? = some u → sqF qs u.a u.b rs u.c u.d * w ≤ s * sqD u.b u.d) ∧ ((s = 0 ∧ w = 1) ∨ ∃ u ∈ ps,sqF qs u.a u.b rs u.c u.d * w = s * sqD u.b u.d) ∧ 0 ≤ s ∧ Same H1 H2)
      ⟨_,_,_,p0,0,1,rfl,⟨f1,⟨by decide,by decide⟩,by decide,by decide⟩,fun j u h => absurd h (by omega),.inl ⟨rfl,rfl⟩,by decide,Same.refl _⟩ (fun i σ H2 _ ⟨_,_,_,_,_,_,_,_,_,_,_,s2⟩ => SqL.of (s2 _ _ P1.lst)) ?_ ?_⟩
    · rintro i x σ H2 hx ⟨z1,z2,z3,r,s',w',rfl,fr,hle,hat,hs0,s2⟩
      obtain ⟨q,hq,rfl⟩ := prs_get hx
      have mq := List.mem_of_getElem? hq
      have pq := (P1.mono s2).pr q mq
      have hi := hin q mq
      have plx := pq.plx hi (show lst_ qs ≤ 100 by unfold lst_; omega)
      have ply := pq.ply hi (show lst_ rs ≤ 100 by unfold lst_; omega)
      refine ⟨q.p,_,rfl,SqT.of pq.p_,rfl,_,_,rfl,_,_,rfl,rfl,?_⟩
      refine ⟨_,rfl,_,rfl,_,rfl,_,rfl,l1,q.x,l2,q.y,qs,rs,_,_,_,_,rfl,(L1.mono s1).mono s2,(L2.mono s1).mono s2,⟨h1,h20⟩,⟨g1,g20⟩,plx,ply,fun r3 s3 w3 H3 fr3 f3 sm3 => ?_⟩
      have fr' := fr.mono sm3
      have pD := sqD_pos pq.lx.pos pq.ly.pos
      refine ⟨_,rfl,_,rfl,r,r3,s',w',s3,w3,rfl,fr'.at_,f3.at_,⟨bits_le fr'.ba (by decide),bits_le fr'.bb (by decide),bits_le f3.ba (by decide),bits_le f3.bb (by decide)⟩,_,rfl,ite3 (fun c => ?_) (fun c => ?_)⟩
      · have c : s' * w3 < s3 * w' := dec_t c
        have hw' : 0 < w' := fr'.low.pos
        have hw3 : 0 < w3 := f3.low.pos
        refine ⟨_,rfl,_,_,_,r3,s3,w3,rfl,f3,fun j u hj hu => ?_,.inr ⟨q,mq,fr3.eq⟩,?_,s2.trans sm3⟩
        · by_cases hji : j = i
          · subst hji
            rw [hq] at hu
            cases hu
            exact Int.le_of_eq fr3.eq
          · have pu := PP.pr u (List.mem_of_getElem? hu)
            exact frac_on hw' hw3 (sqD_pos pu.lx.pos pu.ly.pos) (hle j u (by omega) hu) (Int.le_of_lt c)
        · have h0 : 0 ≤ s' * w3 := Int.mul_nonneg hs0 (by omega)
          rcases Int.lt_or_le s3 0 with h | h
          · exfalso
            have := Int.mul_nonneg (show 0 ≤ -s3 by omega) (show 0 ≤ w' by omega)
            rw [Int.neg_mul] at this
            omega
          · exact h
      · have c : ¬ s' * w3 < s3 * w' := dec_f c
        refine ⟨_,_,_,r,s',w',rfl,fr',fun j u hj hu => ?_,hat,hs0,s2.trans sm3⟩
        by_cases hji : j = i
        · subst hji
          rw [hq] at hu
          cases hu
          exact frac_up pD f3.low.pos fr3.eq (by omega)
        · exact hle j u (by omega) hu
    · rintro σ H2 ⟨z1,z2,z3,r,s',w',rfl,fr,hle,hat,hs0,s2⟩
      have hall : ∀ u ∈ ps,sqF qs u.a u.b rs u.c u.d * w' ≤ s' * sqD u.b u.d := fun u hu => by
        obtain ⟨j,hj,e⟩ := List.getElem_of_mem hu
        exact hle j u (by rw [prs_len]; exact hj) (by rw [List.getElem?_eq_getElem hj,e])
      refine ⟨_,rfl,k r s' w' H2 fr ⟨fr.low,hall,?_⟩ (s1.trans s2)⟩
      rcases hat with ⟨rfl,rfl⟩ | h
      · obtain ⟨u,hu⟩ := List.exists_mem_of_ne_nil ps hne
        refine ⟨u,hu,?_⟩
        have := hall u hu
        have h0 := sqF_nn qs u.a u.b rs u.c u.d
        omega
      · exact h
theorem S_is_small : FnScope ["thing"] ["thing"] (defScope (top 25)) := ⟨rfl,rfl,rfl,by decide +kernel,rfl,by decide +kernel,by decide +kernel⟩
theorem fn_is_small (D_is_small : Df K mg "is_small" (top 25)) (V_LARGEST : ∃ tk,mg "LARGEST" = some (.int 999999999999 tk)) (F_is_whole : Fn P w K mg base "is_whole" ["thing"] 1 spWhole) : Fn P w K mg base "is_small" ["thing"] 2 spSmall := by
  obtain ⟨tL,G_LARGEST⟩ := V_LARGEST
  refine D_is_small.fn S_is_small (fun _ _ _ _ _ _ us hl => by obtain ⟨_,rfl⟩ := len1 hl; rfl) (fun vs H Q E h => ?_) (fun f cdv A outer s H vs Q E hr h => ?_)
  · obtain ⟨x,t,rfl,_⟩ := h
    rfl
  · obtain ⟨x,t,rfl,k,q⟩ := h
    refine ⟨_,(pss_one (ps_ret (pe_and (pe_fn F_is_whole (hr.mono (by decide)) (by rfl) (pa_cons (pv 0) pa_nil)) (pe_one (pe_chain op_le op_le (pe_un un_neg (pe_glob (v := .int 999999999999) (by rfl) G_LARGEST ⟨_,rfl⟩)) (pv 0) (pe_glob (v := .int 999999999999) (by rfl) G_LARGEST ⟨_,rfl⟩)))))),?_⟩
    refine ⟨_,rfl,x,t,rfl,k,_,rfl,?_⟩
    rcases Kn.cases_int k with ⟨a,rfl,rfl⟩ | ⟨nx,ex⟩
    · refine iteTrue rfl ?_
      refine ⟨_,rfl,_,rfl,_,_,rfl,rfl,_,rfl,ite3 (fun hd => ?_) (fun hd => ?_)⟩
      · have z : smallV (.int a) = decide (a ≤ 999999999999) := by
          show (decide (-larg ≤ a) && decide (a ≤ larg)) = _
          rw [show decide (-larg ≤ a) = true from hd]
          rfl
        rw [z] at q
        exact ⟨_,_,rfl,rfl,q⟩
      · have z : smallV (.int a) = false := by
          show (decide (-larg ≤ a) && decide (a ≤ larg)) = _
          rw [show decide (-larg ≤ a) = false from hd]
          rfl
        rw [z] at q
        exact q
    · rw [smallV_no nx] at q
      rw [ex]
      exact iteF q
theorem S_is_corner : FnScope ["thing"] ["thing"] (defScope (top 26)) := ⟨rfl,rfl,rfl,by decide +kernel,rfl,by decide +kernel,by decide +kernel⟩
theorem fn_is_corner (D_is_corner : Df K mg "is_corner" (top 26)) (F_is_small : Fn P w K mg base "is_small" ["thing"] 2 spSmall) (T : Txt mg) : Fn P w K mg base "is_corner" ["thing"] 3 spCorner := by
  refine D_is_corner.fn S_is_corner (fun _ _ _ _ _ _ us hl => by obtain ⟨_,rfl⟩ := len1 hl; rfl) (fun vs H Q E h => ?_) (fun f cdv A outer s H vs Q E hr h => ?_)
  · obtain ⟨x,rfl,_⟩ := h
    rfl
  · obtain ⟨x,rfl,th,q⟩ := h
    obtain ⟨t,k⟩ := th.kn
    refine ⟨_,(pss_one (ps_ret (pe_and (pe_callB call_isinst (by rfl) T.z_isinstance bt_isinstance (pa_cons (pv 0) (pa_cons (pe_ty T.z_tuple bt_tuple) pa_nil))) (pe_and (pe_cmpR op_eq (pe_callB call_len_seq (by rfl) T.z_len bt_len (pa_cons (pv 0) pa_nil)) pe_int (nomark _)) (pe_and (pe_fn F_is_small (hr.mono (by decide)) (by rfl) (pa_cons (pe_ix ix_tup (pv 0) pe_int (fun _ _ => rfl)) pa_nil)) (pe_one (pe_fn F_is_small (hr.mono (by decide)) (by rfl) (pa_cons (pe_ix ix_tup (pv 0) pe_int (fun _ _ => rfl)) pa_nil)))))))),?_⟩
    refine ⟨_,rfl,x,t,"tuple",rfl,k,.inr (.inr (.inl rfl)),_,rfl,?_⟩
    rcases Kn.cases_tp k with ⟨p,xs,rfl,e,rfl⟩ | ⟨hl,hs⟩
    · rw [cornV_tup e] at q
      refine iteTrue (by decide) ?_
      refine ⟨_,rfl,p,xs,rfl,.inr (SqT.of e),rfl,_,rfl,ite3 (fun hc => ?_) (fun hc => ?_)⟩
      · have hn : xs.length = 2 := by
          have z : (xs.length : Int) = 2 := by simpa using hc
          omega
        match xs,hn,e,q with
        | [y,z],_,e,q =>
          obtain ⟨ty,ky⟩ := th.parts p _ rfl e y (by simp)
          obtain ⟨tz,kz⟩ := th.parts p _ rfl e z (by simp)
          have q : Q (.bl (smallV y && smallV z)) H := q
          refine ⟨_,rfl,p,_,_,_,rfl,rfl,SqT.of e,rfl,y,ty,rfl,ky,_,rfl,ite3 (fun h1 => ?_) (fun h1 => ?_)⟩
          · rw [h1,Bool.true_and] at q
            exact ⟨_,rfl,p,_,_,_,rfl,rfl,SqT.of e,rfl,z,tz,rfl,kz,q⟩
          · rw [h1,Bool.false_and] at q
            exact q
      · have hn : xs.length ≠ 2 := by
          intro z
          rw [z] at hc
          exact absurd hc (by decide)
        rw [cornL_len hn] at q
        exact q
    · rw [hl] at q
      rw [hs]
      exact iteF q
def slash : Str := Str.ofString "/"
def showR (a b : Int) : Str := if b = 1 then num a else num a ++ slash ++ num b
def spShow : Sp := fun vs H Q _ => ∃ (p : Addr) (a b : Int),vs = [.ref p] ∧ H p = some (.tup [.int a,.int b]) ∧ (Dg a ∧ Dg b) ∧ Q (.str (showR a b)) H
theorem sz_num {n : Int} (h : Dg n) : (num n).length ≤ 4301 := num_len (by decide) h
theorem line_sz {n : Nat} (h : n ≤ 100000) : n ≤ sizeLine := by
  have : sizeLine = 16777216 := sizeLine_eq
  omega
def spReadW (C : Addr) : Sp := fun vs H Q E => ∃ x : Str,vs = [.str x] ∧ x.length ≤ 60000 ∧
  ((∃ n : Int,x = num n ∧ n.natAbs < 10 ^ 1000 ∧ ∀ H',Same H H' → Q (.int n) H') ∨ ((∀ n : Int,n.natAbs < 10 ^ 1000 → x ≠ num n) ∧ ∀ H',Same H H' → E (.ref C) none H'))
theorem S_show_ratio : FnScope ["a","top","bottom"] ["a"] (defScope (top 69)) := ⟨rfl,rfl,rfl,by decide +kernel,rfl,by decide +kernel,by decide +kernel⟩
theorem fn_show_ratio (D_show_ratio : Df K mg "show_ratio" (top 69)) (DG : Dig K) (T : Txt mg) : Fn P w K mg base "show_ratio" ["a"] 1 spShow := by
  refine D_show_ratio.fn S_show_ratio (fun _ _ _ _ _ _ us hl => by obtain ⟨_,rfl⟩ := len1 hl; rfl) (fun vs H Q E h => ?_) (fun f cdv A outer s H vs Q E hr h => ?_)
  · obtain ⟨p,a,b,rfl,_⟩ := h
    rfl
  · obtain ⟨p,a,b,rfl,e,⟨da,db⟩,q⟩ := h
    refine ⟨_,(pss_cons (ps_set (i := 1) S_show_ratio.nd rfl (Or.inl rfl) (pe_ix ix_tup (pv 0) pe_int (fun _ _ => rfl))) (pss_cons (ps_set (i := 2) S_show_ratio.nd rfl (Or.inl rfl) (pe_ix ix_tup (pv 0) pe_int (fun _ _ => rfl))) (pss_one (ps_ret (pe_ifExp (pt_cmpR op_eq (pv 2) pe_int (nomark _)) (pe_callTy (call_strI (K := K) rfl DG rfl) (by rfl) T.z_str bt_str (pa_cons (pv 1) pa_nil)) (pe_join3 (pe_fmt (K := K) rfl DG rfl (pv 1)) pe_str (pe_fmt (K := K) rfl DG rfl (pv 2)))))))),?_⟩
    refine ⟨_,rfl,p,_,_,_,rfl,rfl,SqT.of e,rfl,?_⟩
    refine ⟨_,rfl,p,_,_,_,rfl,rfl,SqT.of e,rfl,?_⟩
    refine ⟨_,rfl,rfl,_,rfl,ite3 (fun h => ?_) (fun h => ?_)⟩
    · have h : b = 1 := by simpa using h
      refine ⟨_,rfl,a,rfl,da,?_⟩
      unfold showR at q
      rw [if_pos h] at q
      exact q
    · have h : ¬ b = 1 := by simpa using h
      unfold showR at q
      rw [if_neg h] at q
      have za := sz_num da
      have zb := sz_num db
      have zs : (Str.ofString "/").length = 1 := rfl
      refine ⟨_,rfl,.inl ⟨a,rfl,da,_,rfl,line_sz (by omega),_,rfl,line_sz (by omega),_,rfl,.inl ⟨b,rfl,db,_,rfl,line_sz (by omega),q⟩⟩⟩
theorem starts_one (x : Str) (c : Nat) : Txt.startswith x ⟨#[c]⟩ = true ↔ x.cps.toList[0]? = some c := by
  rw [← StrLaws.subAt_one]
  unfold Txt.startswith
  rw [Bool.and_eq_true,decide_eq_true_eq]
theorem starts_ex {x : Str} {c : Nat} : Txt.startswith x ⟨#[c]⟩ = true ↔ ∃ r,x.cps.toList = c :: r := by
  rw [starts_one]
  cases x.cps.toList with
  | nil => simp
  | cons a l => simp
theorem slice_from1 {x : Str} {c : Nat} {r : List Nat} (e : x.cps.toList = c :: r) : (Txt.slice x (some 1) none).cps.toList = r := by
  have hl := len_toList x
  rw [e,List.length_cons] at hl
  rw [PyProof.Rows.slice_from_eq (x := x) (i := 1) (b := x.length) (by decide) (by omega) rfl,e]
  show List.take ((x.length : Int) - 1).toNat r = r
  exact List.take_of_length_le (by omega)
def orAllScope (s : Stmt) : Scope := match s with
  | .If (.BoolOp _ [_,.UnaryOp _ (.Call _ [.ListComp _ _ sc _] _ _) _] _) _ _ _ => sc
  | _ => { kind := .function,names := [],isGenerator := false,isCoroutine := false }
theorem figs_cps : (Str.ofString "0123456789").cps.toList = [48,49,50,51,52,53,54,55,56,57] := by decide +kernel
theorem in_figs (c : Nat) : Txt.contains (Str.ofString "0123456789") ⟨#[c]⟩ = decide (48 ≤ c ∧ c ≤ 57) := by
  refine (StrLaws.found_one (Str.ofString "0123456789") c).trans ?_
  rw [figs_cps,decide_eq_decide]
  simp only [List.mem_cons,List.not_mem_nil,or_false]
  omega
theorem minus_one : Str.ofString "-" = ⟨#[45]⟩ := by decide +kernel
theorem S_read_whole : FnScope ["text","figures","number"] ["text"] (defScope (top 70)) := ⟨rfl,rfl,rfl,by decide +kernel,rfl,by decide +kernel,by decide +kernel⟩
theorem fn_read_whole {C : Addr} (D_read_whole : Df K mg "read_whole" (top 70)) (O_NoText : ExcC K mg "NoText" C) (DG : Dig K) (V_FIGURES : ∃ tk,mg "FIGURES" = some (.str (Str.ofString "0123456789") tk)) (V_MOST : ∃ tk,mg "MOST_FIGURES" = some (.int 1000 tk)) (T : Txt mg) : Fx P w K mg base "read_whole" ["text"] 2 [] (spReadW C) := by
  refine D_read_whole.fx S_read_whole (fun _ _ _ _ _ _ us hl => by obtain ⟨_,rfl⟩ := len1 hl; rfl) (fun vs H Q E h => ?_) (fun f cdv A outer s H vs Q E hr h => ?_)
  · obtain ⟨x,rfl,_⟩ := h
    rfl
  · obtain ⟨x,rfl,hl,h⟩ := h
    obtain ⟨tF,G_FIGURES⟩ := V_FIGURES
    obtain ⟨tM,G_MOST_FIGURES⟩ := V_MOST
    have CN : CompN (cxOf (CXE P w) P w K mg base ["text","figures","number"] "read_whole" (defScope (top 70)) f cdv A outer s H E) (orAllScope ((defBody (top 70)).getD 1 (.Pass ⟨0,0,0,0⟩))) [] "sign" [] :=
      ⟨by rfl,rfl,by decide +kernel,by decide +kernel,rfl,(fun p hp => nomatch hp),by rfl,by decide +kernel,(fun p hp => nomatch hp),⟨rfl,rfl⟩,rfl⟩
    have no : (∀ n : Int,n.natAbs < 10 ^ 1000 → x ≠ num n) → ∀ H',Same H H' → E (.ref C) none H' := fun z H' s' => by
      rcases h with ⟨n,e,hn,_⟩ | ⟨_,k⟩
      · exact absurd e (z n hn)
      · exact k H' s'
    have R : ∃ u : TS,PSs (cxOf (CXE P w) P w K mg base ["text","figures","number"] "read_whole" (defScope (top 70)) f cdv A outer s H E) ((defBody (top 70)).drop 1) u ∧ ∀ (F : Str),F.cps.toList = figL x.cps.toList → F.length ≤ 60000 → u { nx := fun _ H' => Q .non H',rt := Q } [some (.str x),some (.str F),none] H := by
      refine ⟨_,(pss_cons (ps_if (pw_or (pt_not (pt_chain op_le op_le pe_int (pe_callB call_len_str (by rfl) T.z_len bt_len (pa_cons (pv 1) pa_nil)) (pe_glob (v := .int 1000) (by rfl) G_MOST_FIGURES ⟨_,rfl⟩))) (pw_or1 (pt_not (pt_val (pe_callB (call_all rfl) (by rfl) T.z_all bt_all (pa_cons (pe_compA rfl CN (pi_str (pv 1)) (fun fp s₀ H₀ => (pe_cmpR op_inS (pv 0) (pe_glob (v := .str (Str.ofString "0123456789")) (by rfl) G_FIGURES ⟨_,rfl⟩) (by rfl)))) pa_nil)))))).pt (pss_one (ps_raise O_NoText (by rfl))) pss_nil) (pss_cons (ps_set (i := 2) S_read_whole.nd rfl (Or.inl rfl) (pe_callTy (call_intS (K := K) rfl DG) (by rfl) T.z_int bt_int (pa_cons (pv 0) pa_nil))) (pss_cons (ps_if (pt_cmpR op_ne (pe_callTy (call_strI (K := K) rfl DG rfl) (by rfl) T.z_str bt_str (pa_cons (pv 2) pa_nil)) (pv 0) (nomark _)) (pss_one (ps_raise O_NoText (by rfl))) pss_nil) (pss_one (ps_ret (pv 2)))))),fun F hF hz => ?_⟩
      have lF := len_toList F
      have nf : ∀ n : Int,n.natAbs < 10 ^ 1000 → x = num n → F.cps.toList = digs n.natAbs := fun n hn e => by rw [hF,e,num_fig]
      refine ⟨_,rfl,F,rfl,line_sz (by omega),_,_,rfl,rfl,_,rfl,ite3 (fun c1 => ?_) (fun c1 => ?_)⟩
      rotate_left
      · refine ⟨_,rfl,iteT (no (fun n hn e => ?_) H (Same.refl _))⟩
        have z := nf n hn e
        have c1 : ¬ (1 : Int) ≤ (F.length : Int) := by simpa using c1
        refine digs_ne n.natAbs ?_
        rw [← z]
        exact List.length_eq_zero_iff.mp (by omega)
      have c1 : (1 : Int) ≤ (F.length : Int) := by simpa using c1
      refine ⟨_,_,rfl,rfl,_,rfl,ite3 (fun c2 => no (fun n hn e => ?_) H (Same.refl _)) (fun c2 => ?_)⟩
      · have c2 : ¬ (F.length : Int) ≤ 1000 := by simpa using c2
        have z := nf n hn e
        have := (digs_len (k := 1000) (by decide)).mpr hn
        rw [← z] at this
        omega
      have c2 : (F.length : Int) ≤ 1000 := by simpa using c2
      refine ⟨_,rfl,F,rfl,comp_sR (x := F) (by show F.length < _; omega) (fun i v H' => ∃ c,F.cps.toList[i]? = some c ∧ v = .bl (decide (48 ≤ c ∧ c ≤ 57))) (fun i v H H' _ z => z) ?_ ?_⟩
      · intro i c H2 Kc hc s2 kk
        refine ⟨_,rfl,_,_,rfl,rfl,kk _ _ (Same.refl _) ⟨c,hc,?_⟩⟩
        rw [in_figs]
      · intro l ys H2 nl s2 f2 hly hr
        have ey : ys = (F.cps.toList.map fun c => decide (48 ≤ c ∧ c ≤ 57)).map V.bl := by
          apply List.ext_getElem?
          intro i
          rw [List.map_map,List.getElem?_map]
          cases hy : ys[i]? with
          | none =>
            have : F.cps.toList.length ≤ i := by
              have := List.getElem?_eq_none_iff.mp hy
              have e9 : F.cps.size = F.cps.toList.length := by simp
              omega
            rw [List.getElem?_eq_none this]
            rfl
          | some y =>
            obtain ⟨c,hc,rfl⟩ := hr i y hy
            rw [hc]
            rfl
        subst ey
        refine ⟨l,_,rfl,SqL.of f2,_,rfl,ite3 (fun c3 => no (fun n hn e => ?_) H2 s2) (fun c3 => ?_)⟩
        · have z := nf n hn e
          have c3 : ((F.cps.toList.map fun c => decide (48 ≤ c ∧ c ≤ 57)).all id) = false := by simpa only [Bool.not_eq_true'] using c3
          rw [z,List.all_map] at c3
          have : (digs n.natAbs).all (id ∘ fun c => decide (48 ≤ c ∧ c ≤ 57)) = true := List.all_eq_true.mpr fun c hc => decide_eq_true (digs_all _ c hc)
          rw [this] at c3
          cases c3
        have c3 : ((F.cps.toList.map fun c => decide (48 ≤ c ∧ c ≤ 57)).all id) = true := by simpa only [Bool.not_eq_false'] using c3
        have ad : PySem.NumText.AllDigits (figL x.cps.toList) := fun c hc => by
          rw [← hF] at hc
          rw [List.all_map,List.all_eq_true] at c3
          exact of_decide_eq_true (c3 c hc)
        obtain ⟨v,hs,h43,it,hv,hu⟩ := whole_read (x := x) (k := 1000) ad (by rw [← hF]; intro z; rw [z] at lF; simp at lF; omega) (by rw [← hF]; omega) (by decide)
        refine ⟨_,rfl,x,v,rfl,hs,h43,it,?_⟩
        refine ⟨_,rfl,v,rfl,Dg.of hv (by decide),_,rfl,rfl,_,rfl,ite3 (fun c4 => no (fun n hn e => ?_) H2 s2) (fun c4 => ?_)⟩
        · have := hu n e
          subst this
          rw [e] at c4
          simp at c4
        · have c4 : num v = x := by simpa using c4
          refine ⟨_,rfl,?_⟩
          rcases h with ⟨n,e,hn,k⟩ | ⟨hno,_⟩
          · have := hu n e
            subst this
            exact k H2 s2
          · exact absurd c4.symm (hno v hv)
    obtain ⟨u,hu,rd⟩ := R
    refine ⟨_,(pss_cons (ps_set (i := 1) S_read_whole.nd rfl (Or.inl rfl) (pe_ifExp (pt_val (pe_bm PySem.F.plainAttrs_str PySem.F.slot_str_startswith PySem.F.type_str_startswith mt_startswith (pv 0) (pa_cons pe_str pa_nil))) (pe_slice sl_strS (pv 0) (po_some pe_int) po_none) (pv 0))) hu),?_⟩
    refine ⟨_,rfl,rfl,x,_,rfl,rfl,_,rfl,ite3 (fun h1 => ?_) (fun h1 => ?_)⟩
    · rw [minus_one] at h1
      obtain ⟨r,e⟩ := starts_ex.mp h1
      have es := slice_from1 e
      have l1 := len_toList (Txt.slice x (some 1) none)
      have l2 := len_toList x
      rw [es] at l1
      rw [e,List.length_cons] at l2
      refine ⟨_,rfl,_,rfl,x,rfl,line_sz (by omega),?_⟩
      exact rd _ (by rw [es,e]; rfl) (by omega)
    · refine ⟨_,rfl,rd x (figL_of fun r e => ?_).symm hl⟩
      rw [minus_one,starts_ex.mpr ⟨r,e⟩] at h1
      cases h1
theorem slash_one : slash = ⟨#[47]⟩ := by decide +kernel
theorem num_noslash (n : Int) : 47 ∉ (num n).cps.toList := fun h => by
  have := num_signs n 47 h
  omega
def parts (a b : Int) : List Int := if b = 1 then [a] else [a,b]
theorem showR_join (a b : Int) : showR a b = Str.join ⟨#[47]⟩ ((parts a b).map num) := by
  unfold showR parts
  split
  · rfl
  · rw [slash_one]
    rfl
theorem split_showR (a b : Int) : Txt.split (showR a b) (Str.ofString "/") = (parts a b).map num := by
  rw [showR_join]
  rw [show Str.ofString "/" = (⟨#[47]⟩ : Str) from slash_one]
  refine split_of ?_ ?_
  · unfold parts
    split <;> simp
  · intro q hq
    obtain ⟨n,_,rfl⟩ := List.mem_map.mp hq
    exact num_noslash n
theorem showR_len {a b : Int} (ha : a.natAbs < 10 ^ 1000) (hb : b.natAbs < 10 ^ 1000) : (showR a b).length ≤ 2010 := by
  have l1 := num_len (k := 1000) (by decide) ha
  have l2 := num_len (k := 1000) (by decide) hb
  have l3 : slash.length = 1 := rfl
  unfold showR
  split
  · omega
  · rw [Str.length_append,Str.length_append]
    omega
structure Wr (a b : Int) : Prop where
  low : Low a b
  top : a.natAbs < 10 ^ 1000
  bot : b.natAbs < 10 ^ 1000
theorem Wr.dg {a b : Int} (h : Wr a b) : Dg a ∧ Dg b := ⟨Dg.of h.top (by decide),Dg.of h.bot (by decide)⟩
theorem none_of_same {H H' : Hp} {t : Addr} (s : Same H H') (n : H' t = none) : H t = none := by
  cases e : H t with
  | none => rfl
  | some o =>
    rw [s _ _ e] at n
    cases n
theorem th_two {H : Hp} {p : Addr} {a b : Int} (e : H p = some (.tup [.int a,.int b])) : Thing H (.ref p) := ⟨⟨_,.tup e⟩,fun q xs e1 e2 y hy => by
  cases e1
  rw [e] at e2
  cases e2
  simp only [List.mem_cons,List.not_mem_nil,or_false] at hy
  rcases hy with rfl | rfl <;> exact ⟨_,.int _⟩⟩
theorem low_t {H : Hp} {p : Addr} {a b : Int} (e : H p = some (.tup [.int a,.int b])) (l : Low a b) : lowV H (.ref p) = true := by
  rw [lowV_two e]
  unfold lowB
  rw [decide_eq_true l.pos,decide_eq_true l.one]
  rfl
theorem S_law_shown : FnScope ["a"] ["a"] (defScope (top 121)) := ⟨rfl,rfl,rfl,by decide +kernel,rfl,by decide +kernel,by decide +kernel⟩
theorem fn_law_shown (D_law_shown : Df K mg "_law_shown" (top 121)) (DG : Dig K) (T : Txt mg) : Fn P w K mg base "_law_shown" ["a"] 1 spShow := by
  refine D_law_shown.fn S_law_shown (fun _ _ _ _ _ _ us hl => by obtain ⟨_,rfl⟩ := len1 hl; rfl) (fun vs H Q E h => ?_) (fun f cdv A outer s H vs Q E hr h => ?_)
  · obtain ⟨p,a,b,rfl,_⟩ := h
    rfl
  · obtain ⟨p,a,b,rfl,e,⟨da,db⟩,q⟩ := h
    refine ⟨_,(pss_cons (ps_if (pt_cmpR op_eq (pe_ix ix_tup (pv 0) pe_int (fun _ _ => rfl)) pe_int (nomark _)) (pss_one (ps_ret (pe_callTy (call_strI (K := K) rfl DG rfl) (by rfl) T.z_str bt_str (pa_cons (pe_ix ix_tup (pv 0) pe_int (fun _ _ => rfl)) pa_nil)))) pss_nil) (pss_one (ps_ret (pe_op op_add_str (pe_op op_add_str (pe_callTy (call_strI (K := K) rfl DG rfl) (by rfl) T.z_str bt_str (pa_cons (pe_ix ix_tup (pv 0) pe_int (fun _ _ => rfl)) pa_nil)) pe_str) (pe_callTy (call_strI (K := K) rfl DG rfl) (by rfl) T.z_str bt_str (pa_cons (pe_ix ix_tup (pv 0) pe_int (fun _ _ => rfl)) pa_nil)))))),?_⟩
    have za := sz_num da
    have zb := sz_num db
    have zs : (Str.ofString "/").length = 1 := rfl
    refine ⟨_,rfl,p,_,_,_,rfl,rfl,SqT.of e,rfl,rfl,_,rfl,ite3 (fun h => ?_) (fun h => ?_)⟩
    · have h : b = 1 := by simpa using h
      unfold showR at q
      rw [if_pos h] at q
      exact ⟨_,rfl,p,_,_,_,rfl,rfl,SqT.of e,rfl,a,rfl,da,q⟩
    · have h : ¬ b = 1 := by simpa using h
      unfold showR at q
      rw [if_neg h] at q
      refine ⟨_,rfl,p,_,_,_,rfl,rfl,SqT.of e,rfl,a,rfl,da,_,_,rfl,rfl,line_sz (by omega),?_⟩
      exact ⟨_,rfl,p,_,_,_,rfl,rfl,SqT.of e,rfl,b,rfl,db,_,_,rfl,rfl,line_sz (by rw [Str.length_append]; omega),q⟩
def spReadRX (C : Addr) : Sp := fun vs H Q E => ∃ x : Str,vs = [.str x] ∧ x.length ≤ 60000 ∧
  ((∃ a b : Int,x = showR a b ∧ Wr a b ∧ ∀ (p : Addr) (H' : Hp),Same H H' → H' p = some (.tup [.int a,.int b]) → H p = none → Q (.ref p) H') ∨ ((∀ a b : Int,Wr a b → x ≠ showR a b) ∧ ∀ H',Same H H' → E (.ref C) none H'))
theorem map_num_inj : ∀ {as bs : List Int},as.map num = bs.map num → as = bs
  | [],[],_ => rfl
  | [],_ :: _,h => by simp at h
  | _ :: _,[],h => by simp at h
  | a :: as,b :: bs,h => by
    simp only [List.map_cons,List.cons.injEq] at h
    rw [num_inj h.1,map_num_inj h.2]
theorem all_nums : ∀ {ps : List Str},(∀ p ∈ ps,∃ n : Int,p = num n ∧ n.natAbs < 10 ^ 1000) → ∃ ns : List Int,ps = ns.map num ∧ ∀ n ∈ ns,n.natAbs < 10 ^ 1000
  | [],_ => ⟨[],rfl,fun _ h => nomatch h⟩
  | p :: ps,h => by
    obtain ⟨n,e,hn⟩ := h p List.mem_cons_self
    obtain ⟨ns,e2,h2⟩ := all_nums (ps := ps) fun q hq => h q (List.mem_cons_of_mem _ hq)
    exact ⟨n :: ns,by rw [e,e2]; rfl,fun m hm => by
      rcases List.mem_cons.mp hm with rfl | hm
      · exact hn
      · exact h2 m hm⟩
def lowOf (ns : List Int) : Int := if 1 < ns.length then ns.getLast?.getD 1 else 1
theorem parts_of {a b : Int} {ns : List Int} (h : ns = parts a b) : ns.head?.getD 0 = a ∧ lowOf ns = b := by
  subst h
  unfold parts lowOf
  split
  · rename_i e
    exact ⟨rfl,e.symm⟩
  · exact ⟨rfl,rfl⟩
theorem parts_small {a b : Int} (h : Wr a b) : ∀ n ∈ parts a b,n.natAbs < 10 ^ 1000 := fun n hn => by
  unfold parts at hn
  split at hn
  · rw [List.mem_singleton.mp hn]
    exact h.top
  · simp only [List.mem_cons,List.not_mem_nil,or_false] at hn
    rcases hn with rfl | rfl
    · exact h.top
    · exact h.bot
theorem at_zero {α : Type} (x : α) (xs : List α) : atI (x :: xs) 0 = some x := by
  unfold atI ixN
  rw [if_pos (Int.le_refl 0),if_pos (by rw [List.length_cons]; omega)]
  rfl
theorem at_last {α : Type} {xs : List α} {b : α} (h : xs.getLast? = some b) : atI xs (-1) = some b := by
  have hl : 0 < xs.length := by
    cases xs with
    | nil => cases h
    | cons _ _ => simp
  unfold atI ixN
  rw [List.getLast?_eq_getElem?] at h
  rw [if_neg (by decide),if_pos (by omega),show ((-1 : Int) + (xs.length : Int)).toNat = xs.length - 1 by omega]
  exact h
theorem split_len_le {x y p : Str} (h : p ∈ Txt.split x y) : p.length ≤ x.length := PyProof.Rows.part_short h
theorem S_read_ratio : FnScope ["text","numbers","fraction"] ["text"] (defScope (top 71)) := ⟨rfl,rfl,rfl,by decide +kernel,rfl,by decide +kernel,by decide +kernel⟩
theorem fn_read_ratio {C : Addr} (D_read_ratio : Df K mg "read_ratio" (top 71)) (O_NoText : ExcC K mg "NoText" C) (F_is_ratio : Fn P w K mg base "is_ratio" ["thing"] 2 spLow) (F_show_ratio : Fn P w K mg base "show_ratio" ["a"] 1 spShow) (F_read_whole : Fx P w K mg base "read_whole" ["text"] 2 [] (spReadW C)) (T : Txt mg) : Fx P w K mg base "read_ratio" ["text"] 3 [] (spReadRX C) := by
  refine D_read_ratio.fx S_read_ratio (fun _ _ _ _ _ _ us hl => by obtain ⟨_,rfl⟩ := len1 hl; rfl) (fun vs H Q E h => ?_) (fun f cdv A outer s H vs Q E hr h => ?_)
  · obtain ⟨x,rfl,_⟩ := h
    rfl
  · obtain ⟨x,rfl,hl,h⟩ := h
    have CN : CompN (cxOf (CXE P w) P w K mg base ["text","numbers","fraction"] "read_ratio" (defScope (top 71)) f cdv A outer s H E) (setScope ((defBody (top 71)).getD 0 (.Pass ⟨0,0,0,0⟩))) [] "part" [] :=
      ⟨by rfl,rfl,by decide +kernel,by decide +kernel,rfl,(fun p hp => nomatch hp),by rfl,by decide +kernel,(fun p hp => nomatch hp),⟨rfl,rfl⟩,rfl⟩
    have no : (∀ a b : Int,Wr a b → x ≠ showR a b) → ∀ H',Same H H' → E (.ref C) none H' := fun z H' s' => by
      rcases h with ⟨a,b,e,wr,_⟩ | ⟨_,k⟩
      · exact absurd e (z a b wr)
      · exact k H' s'
    have hsp : ∀ a b : Int,x = showR a b → Txt.split x (Str.ofString "/") = (parts a b).map num := fun a b e => by rw [e,split_showR]
    have R : ∃ u : TS,PSs (cxOf (CXE P w) P w K mg base ["text","numbers","fraction"] "read_ratio" (defScope (top 71)) f cdv A outer s H E) ((defBody (top 71)).drop 2) u ∧ ∀ (l t : Addr) (a b : Int) (H3 : Hp),(∀ a' b',Wr a' b' → x = showR a' b' → a = a' ∧ b = b') → a.natAbs < 10 ^ 1000 → b.natAbs < 10 ^ 1000 → Same H H3 → H3 t = some (.tup [.int a,.int b]) → H t = none → u { nx := fun _ H' => Q .non H',rt := Q } [some (.str x),some (.ref l),some (.ref t)] H3 := by
      refine ⟨_,(pss_cons (ps_if (pw_or (pt_not (pt_val (pe_fn F_is_ratio (hr.mono (by decide)) (by rfl) (pa_cons (pv 2) pa_nil)))) (pw_or1 (pt_cmpR op_ne (pe_fn F_show_ratio (hr.mono (by decide)) (by rfl) (pa_cons (pv 2) pa_nil)) (pv 0) (nomark _)))).pt (pss_one (ps_raise O_NoText (by rfl))) pss_nil) (pss_one (ps_ret (pv 2)))),fun l t a b H3 hu ha hb s3 f3 n3 => ?_⟩
      refine ⟨_,rfl,_,rfl,th_two f3,_,rfl,ite3 (fun c1 => no (fun a' b' w' e => ?_) H3 s3) (fun c1 => ?_)⟩
      · obtain ⟨rfl,rfl⟩ := hu a' b' w' e
        rw [low_t f3 w'.low] at c1
        cases c1
      have lw : Low a b := by
        have c1 : lowV H3 (.ref t) = true := by simpa using c1
        rw [lowV_two f3] at c1
        unfold lowB at c1
        rw [Bool.and_eq_true,decide_eq_true_eq,decide_eq_true_eq] at c1
        exact ⟨c1.1,c1.2⟩
      have wr : Wr a b := ⟨lw,ha,hb⟩
      refine ⟨_,rfl,t,a,b,rfl,f3,wr.dg,_,rfl,rfl,_,rfl,ite3 (fun c2 => no (fun a' b' w' e => ?_) H3 s3) (fun c2 => ?_)⟩
      · obtain ⟨rfl,rfl⟩ := hu a' b' w' e
        rw [e] at c2
        simp at c2
      · have c2 : showR a b = x := by simpa using c2
        rcases h with ⟨a',b',e,w',k⟩ | ⟨z,_⟩
        · obtain ⟨rfl,rfl⟩ := hu a' b' w' e
          exact ⟨_,rfl,k t H3 s3 f3 n3⟩
        · exact absurd c2.symm (z a b wr)
    obtain ⟨u,hu,rd⟩ := R
    refine ⟨_,(pss_cons (ps_setCompX (j := 1) CN S_read_ratio.nd rfl rfl (pi_list (pe_bm PySem.F.plainAttrs_str PySem.F.slot_str_split PySem.F.type_str_split mt_split (pv 0) (pa_cons pe_str pa_nil))) (fun fp s₀ H₀ => (pe_fxB F_read_whole (hr.mono (by decide)) (by rfl) (pa_cons (pv 0) pa_nil)))) (pss_cons (ps_set (i := 2) S_read_ratio.nd rfl (Or.inl rfl) (pe_tupA (pa_cons (pe_ix ix_list (pv 1) pe_int (fun _ _ => rfl)) (pa_cons (pe_ifExp (pt_cmpR op_gt (pe_callB call_len_seq (by rfl) T.z_len bt_len (pa_cons (pv 1) pa_nil)) pe_int (nomark _)) (pe_ix ix_list (pv 1) (pe_un un_neg pe_int) (fun _ _ => rfl)) pe_int) pa_nil)))) hu)),?_⟩
    refine ⟨_,rfl,rfl,_,_,rfl,rfl,rfl,by omega,fun l1 H1 s1 f1 n1 => ?_⟩
    have hpl := PyProof.Rows.split_le x (Str.ofString "/")
    refine ⟨l1,rfl,⟨_,SqL.of f1⟩,comp_RB (SqL.of f1) (by rw [List.length_map]; omega) (fun i v H' => ∃ n : Int,(Txt.split x (Str.ofString "/"))[i]? = some (num n) ∧ n.natAbs < 10 ^ 1000 ∧ v = .int n) (fun i v H H' _ z => z) ?_ ?_⟩
    · intro i y H2 Kc hx s2 kk
      rw [List.getElem?_map] at hx
      obtain ⟨pt,hp,rfl⟩ := Option.map_eq_some_iff.mp hx
      have hm := List.mem_of_getElem? hp
      have hsz := split_len_le hm
      by_cases hn : ∃ n : Int,pt = num n ∧ n.natAbs < 10 ^ 1000
      · obtain ⟨n,rfl,hn⟩ := hn
        exact ⟨_,rfl,num n,rfl,by omega,.inl ⟨n,rfl,hn,fun H3 s3 => kk _ _ s3 ⟨n,hp,hn,rfl⟩⟩⟩
      · refine ⟨_,rfl,pt,rfl,by omega,.inr ⟨fun n hb e => hn ⟨n,e,hb⟩,fun H3 s3 => no (fun a b w' e => ?_) H3 (s1.trans (s2.trans s3))⟩⟩
        rw [hsp a b e] at hm
        obtain ⟨n,hn2,e2⟩ := List.mem_map.mp hm
        exact hn ⟨n,e2.symm,parts_small w' n hn2⟩
    · intro l ys H2 nl s2 f2 hly hr
      rw [List.length_map] at hly
      obtain ⟨ns,e1,hsm⟩ := all_nums (ps := Txt.split x (Str.ofString "/")) fun p hp => by
        obtain ⟨i,hi,e⟩ := List.mem_iff_getElem.mp hp
        have hy : i < ys.length := by omega
        obtain ⟨n,h1,h2,_⟩ := hr i _ (List.getElem?_eq_getElem hy)
        rw [List.getElem?_eq_getElem hi,e] at h1
        exact ⟨n,Option.some.inj h1,h2⟩
      have ey : ys = ns.map V.int := by
        apply List.ext_getElem?
        intro i
        rw [List.getElem?_map]
        cases hy : ys[i]? with
        | none =>
          have h2 := List.getElem?_eq_none_iff.mp hy
          have : (Txt.split x (Str.ofString "/")).length = ns.length := by rw [e1,List.length_map]
          rw [List.getElem?_eq_none (by omega)]
          rfl
        | some y =>
          obtain ⟨n,h1,_,rfl⟩ := hr i y hy
          rw [e1,List.getElem?_map] at h1
          obtain ⟨m,hm,e2⟩ := Option.map_eq_some_iff.mp h1
          rw [hm,num_inj e2]
          rfl
      subst ey
      have hun : ∀ a' b',Wr a' b' → x = showR a' b' → ns.head?.getD 0 = a' ∧ lowOf ns = b' := fun a' b' _ e => parts_of (map_num_inj (by rw [← e1,hsp a' b' e]))
      have S2 := s1.trans s2
      match hns : ns with
      | [] =>
        have := PyProof.Rows.split_pos x (Str.ofString "/")
        rw [e1] at this
        exact absurd this (by simp)
      | [a] =>
        have f2 : H2 l = some (.lst [.int a]) := f2
        refine ⟨_,rfl,l,_,_,_,rfl,rfl,SqL.of f2,rfl,_,rfl,l,_,rfl,.inl (SqL.of f2),_,_,rfl,rfl,_,rfl,iteFalse (by simp) ?_⟩
        exact ⟨sz (by simp),fun t H3 s3 f3 n3 => rd l t a 1 H3 hun (hsm a (by simp)) (by show 1 < 10 ^ 1000; exact Nat.one_lt_pow (by decide) (by decide)) (S2.trans s3) f3 (none_of_same S2 n3)⟩
      | a :: c :: r =>
        have f2 : H2 l = some (.lst (.int a :: .int c :: r.map V.int)) := f2
        obtain ⟨b,hb1,hb2⟩ : ∃ b,(a :: c :: r).getLast? = some b ∧ b ∈ a :: c :: r := ⟨_,List.getLast?_eq_some_getLast (by simp),List.getLast_mem (by simp)⟩
        have hat : atI ((a :: c :: r).map V.int) (-1) = some (.int b) := by
          refine at_last ?_
          rw [List.getLast?_map,hb1]
          rfl
        have hlo : lowOf (a :: c :: r) = b := by
          unfold lowOf
          rw [if_pos (by simp),hb1]
          rfl
        refine ⟨_,rfl,l,_,_,_,rfl,rfl,SqL.of f2,at_zero _ _,_,rfl,l,_,rfl,.inl (SqL.of f2),_,_,rfl,rfl,_,rfl,iteTrue (by simp; omega) ?_⟩
        refine ⟨_,rfl,_,rfl,l,_,_,_,rfl,rfl,SqL.of f2,hat,?_⟩
        exact ⟨sz (by simp),fun t H3 s3 f3 n3 => rd l t a b H3 (fun a' b' w' e => by rw [← hlo]; exact hun a' b' w' e) (hsm a (by simp)) (hsm b hb2) (S2.trans s3) f3 (none_of_same S2 n3)⟩
theorem showR_inj {a b a' b' : Int} (h : showR a b = showR a' b') : a = a' ∧ b = b' := by
  have e : (parts a b).map num = (parts a' b').map num := by rw [← split_showR,← split_showR,h]
  have e2 := map_num_inj e
  obtain ⟨h1,h2⟩ := parts_of (a := a) (b := b) rfl
  obtain ⟨h3,h4⟩ := parts_of e2
  exact ⟨h1.symm.trans h3,h2.symm.trans h4⟩
theorem blank_one : Str.ofString " " = ⟨#[32]⟩ := by decide +kernel
theorem num_no {n : Int} {c : Nat} (h : c ≠ 45 ∧ (c < 48 ∨ 57 < c)) : c ∉ (num n).cps.toList := fun hm => by
  have := num_signs n c hm
  omega
def spTwo (C : Addr) : Sp := fun vs H Q E => ∃ (x y : Str),vs = [.str x,.str y] ∧ (y.length == 0) = false ∧ x.length ≤ 60000 ∧
  ((∃ a b,Txt.split x y = [a,b] ∧ ∀ (l : Addr) (H' : Hp),Same H H' → H' l = some (.lst [.str a,.str b]) → Q (.ref l) H') ∨ ((∀ a b,Txt.split x y ≠ [a,b]) ∧ ∀ H',Same H H' → E (.ref C) none H'))
def colon : Str := Str.ofString ":"
theorem colon_one : colon = ⟨#[58]⟩ := by decide +kernel
abbrev R4 := (Int × Int) × (Int × Int)
def pairT (r : R4) : Str := showR r.1.1 r.1.2 ++ colon ++ showR r.2.1 r.2.2
def paperT (w y : Str) (rs : List R4) : Str := Str.join ⟨#[32]⟩ (w :: y :: rs.map pairT)
def Wr4 (r : R4) : Prop := Wr r.1.1 r.1.2 ∧ Wr r.2.1 r.2.2
theorem showR_no {a b : Int} {c : Nat} (h : c ≠ 45 ∧ c ≠ 47 ∧ (c < 48 ∨ 57 < c)) : c ∉ (showR a b).cps.toList := fun hm => by
  unfold showR at hm
  split at hm
  · exact num_no ⟨h.1,h.2.2⟩ hm
  · rw [app_list,app_list,slash_one] at hm
    rcases List.mem_append.mp hm with hm | hm
    · rcases List.mem_append.mp hm with hm | hm
      · exact num_no ⟨h.1,h.2.2⟩ hm
      · exact h.2.1 (List.mem_singleton.mp hm)
    · exact num_no ⟨h.1,h.2.2⟩ hm
theorem pair_cps (r : R4) : (pairT r).cps.toList = (showR r.1.1 r.1.2).cps.toList ++ 58 :: (showR r.2.1 r.2.2).cps.toList := by
  unfold pairT
  rw [app_list,app_list,colon_one,List.append_assoc]
  rfl
theorem split_pair (r : R4) : Txt.split (pairT r) colon = [showR r.1.1 r.1.2,showR r.2.1 r.2.2] := by
  rw [colon_one]
  have e : pairT r = Str.join ⟨#[58]⟩ [showR r.1.1 r.1.2,showR r.2.1 r.2.2] := by
    unfold pairT
    rw [colon_one]
    rfl
  rw [e]
  refine split_of (by simp) fun q hq => ?_
  simp only [List.mem_cons,List.not_mem_nil,or_false] at hq
  rcases hq with rfl | rfl <;> exact showR_no (by decide)
theorem pair_inj {r s : R4} (h : pairT r = pairT s) : r = s := by
  have e : [showR r.1.1 r.1.2,showR r.2.1 r.2.2] = [showR s.1.1 s.1.2,showR s.2.1 s.2.2] := by rw [← split_pair,← split_pair,h]
  simp only [List.cons.injEq,and_true] at e
  obtain ⟨e1,e2⟩ := showR_inj e.1
  obtain ⟨e3,e4⟩ := showR_inj e.2
  exact Prod.ext (Prod.ext e1 e2) (Prod.ext e3 e4)
theorem pair_noblank (r : R4) : 32 ∉ (pairT r).cps.toList := by
  rw [pair_cps]
  intro h
  rcases List.mem_append.mp h with h | h
  · exact showR_no (by decide) h
  · rcases List.mem_cons.mp h with h | h
    · cases h
    · exact showR_no (by decide) h
theorem map_pair_inj : ∀ {as bs : List R4},as.map pairT = bs.map pairT → as = bs
  | [],[],_ => rfl
  | [],_ :: _,h => by simp at h
  | _ :: _,[],h => by simp at h
  | a :: as,b :: bs,h => by
    simp only [List.map_cons,List.cons.injEq] at h
    rw [pair_inj h.1,map_pair_inj h.2]
def wordsL : List Str := [Str.ofString "walk",Str.ofString "fence"]
def waysL : List Str := [Str.ofString "on",Str.ofString "part",Str.ofString "free",Str.ofString "hops"]
theorem words_noblank : ∀ w ∈ wordsL,32 ∉ w.cps.toList := by decide +kernel
theorem ways_noblank : ∀ w ∈ waysL,32 ∉ w.cps.toList := by decide +kernel
structure OkP (w y : Str) (rs : List R4) : Prop where
  word : w ∈ wordsL
  way : y ∈ waysL
  one : 1 ≤ rs.length
  most : rs.length ≤ 200
  prs : ∀ r ∈ rs,Wr4 r
theorem split_paper {w y : Str} {rs : List R4} (hw : w ∈ wordsL) (hy : y ∈ waysL) : Txt.split (paperT w y rs) (Str.ofString " ") = w :: y :: rs.map pairT := by
  rw [blank_one]
  refine split_of (by simp) fun q hq => ?_
  rcases List.mem_cons.mp hq with rfl | hq
  · exact words_noblank _ hw
  · rcases List.mem_cons.mp hq with rfl | hq
    · exact ways_noblank _ hy
    · obtain ⟨c,_,rfl⟩ := List.mem_map.mp hq
      exact pair_noblank c
theorem paper_inj {w y w' y' : Str} {rs rs' : List R4} (h1 : OkP w y rs) (h2 : OkP w' y' rs') (h : paperT w y rs = paperT w' y' rs') : w = w' ∧ y = y' ∧ rs = rs' := by
  have e : w :: y :: rs.map pairT = w' :: y' :: rs'.map pairT := by rw [← split_paper h1.word h1.way,← split_paper h2.word h2.way,h]
  simp only [List.cons.injEq] at e
  exact ⟨e.1,e.2.1,map_pair_inj e.2.2⟩
def PrT (H : Hp) (v : V) (r : R4) : Prop := ∃ p a b,v = .ref p ∧ H p = some (.tup [.ref a,.ref b]) ∧ H a = some (.tup [.int r.1.1,.int r.1.2]) ∧ H b = some (.tup [.int r.2.1,.int r.2.2])
theorem PrT.t {H H' : Hp} {v : V} {r : R4} (h : PrT H v r) (s : SameT H H') : PrT H' v r := by
  obtain ⟨p,a,b,e,e1,e2,e3⟩ := h
  exact ⟨p,a,b,e,s _ _ e1,s _ _ e2,s _ _ e3⟩
structure Prs (H : Hp) (l : Addr) (qs : List (V × R4)) : Prop where
  lst : H l = some (.lst (qs.map (·.1)))
  prs : ∀ q ∈ qs,PrT H q.1 q.2
theorem Prs.mono {H H' : Hp} {l : Addr} {qs : List (V × R4)} (L : Prs H l qs) (s : Same H H') : Prs H' l qs := ⟨s _ _ L.lst,fun q h => (L.prs q h).t s.t⟩
def spReadP (C : Addr) : Sp := fun vs H Q E => ∃ x : Str,vs = [.str x] ∧ x.length ≤ 60000 ∧
  ((∃ r,x = pairT r ∧ Wr4 r ∧ ∀ (v : V) (H' : Hp),Same H H' → PrT H' v r → Q v H') ∨ ((∀ r,Wr4 r → x ≠ pairT r) ∧ ∀ H',Same H H' → E (.ref C) none H'))
theorem S_two_parts : FnScope ["text","sign","parts"] ["text","sign"] (defScope (top 72)) := ⟨rfl,rfl,rfl,by decide +kernel,rfl,by decide +kernel,by decide +kernel⟩
theorem fn_two_parts {C : Addr} (D_two_parts : Df K mg "two_parts" (top 72)) (O_NoText : ExcC K mg "NoText" C) (T : Txt mg) : Fx P w K mg base "two_parts" ["text","sign"] 1 [] (spTwo C) := by
  refine D_two_parts.fx S_two_parts (fun _ _ _ _ _ _ us hl => by obtain ⟨_,_,rfl⟩ := len2 hl; rfl) (fun vs H Q E h => ?_) (fun f cdv A outer s H vs Q E hr h => ?_)
  · obtain ⟨x,y,rfl,_⟩ := h
    rfl
  · obtain ⟨x,y,rfl,hy,hl,h⟩ := h
    refine ⟨_,(pss_cons (ps_set (i := 2) S_two_parts.nd rfl (Or.inl rfl) (pe_bm PySem.F.plainAttrs_str PySem.F.slot_str_split PySem.F.type_str_split mt_split (pv 0) (pa_cons (pv 1) pa_nil))) (pss_cons (ps_if (pt_cmpR op_ne (pe_callB call_len_seq (by rfl) T.z_len bt_len (pa_cons (pv 2) pa_nil)) pe_int (nomark _)) (pss_one (ps_raise O_NoText (by rfl))) pss_nil) (pss_one (ps_ret (pv 2))))),?_⟩
    have hpl := PyProof.Rows.split_le x y
    refine ⟨_,rfl,rfl,_,rfl,x,y,rfl,rfl,hy,by omega,fun l1 H1 s1 f1 n1 => ?_⟩
    refine ⟨_,rfl,l1,_,rfl,.inl (SqL.of f1),rfl,_,rfl,ite3 (fun c1 => ?_) (fun c1 => ?_)⟩
    · rcases h with ⟨a,b,e,_⟩ | ⟨_,k⟩
      · rw [e] at c1
        simp at c1
      · exact k H1 s1
    · have c1 : ((Txt.split x y).map V.str).length = 2 := by
        have : ((((Txt.split x y).map V.str).length : Nat) : Int) = 2 := by simpa using c1
        omega
      rw [List.length_map] at c1
      obtain ⟨a,b,e⟩ := len2 c1
      refine ⟨_,rfl,?_⟩
      rcases h with ⟨a',b',e',k⟩ | ⟨z,_⟩
      · rw [e'] at f1
        exact k l1 H1 s1 f1
      · exact absurd e (z a b)
theorem S_read_pair : FnScope ["text","parts"] ["text"] (defScope (top 75)) := ⟨rfl,rfl,rfl,by decide +kernel,rfl,by decide +kernel,by decide +kernel⟩
theorem fn_read_pair {C : Addr} (D_read_pair : Df K mg "read_pair" (top 75)) (F_two_parts : Fx P w K mg base "two_parts" ["text","sign"] 1 [] (spTwo C)) (F_read_ratio : Fx P w K mg base "read_ratio" ["text"] 3 [] (spReadRX C)) : Fx P w K mg base "read_pair" ["text"] 4 [] (spReadP C) := by
  refine D_read_pair.fx S_read_pair (fun _ _ _ _ _ _ us hl => by obtain ⟨_,rfl⟩ := len1 hl; rfl) (fun vs H Q E h => ?_) (fun f cdv A outer s H vs Q E hr h => ?_)
  · obtain ⟨x,rfl,_⟩ := h
    rfl
  · obtain ⟨x,rfl,hl,h⟩ := h
    refine ⟨_,(pss_cons (ps_set (i := 1) S_read_pair.nd rfl (Or.inl rfl) (pe_fx F_two_parts (hr.mono (by decide)) (by rfl) (pa_cons (pv 0) (pa_cons pe_str pa_nil)))) (pss_one (ps_ret (pe_tupA (pa_cons (pe_fx F_read_ratio (hr.mono (by decide)) (by rfl) (pa_cons (pe_ix ix_list (pv 1) pe_int (fun _ _ => rfl)) pa_nil)) (pa_cons (pe_fx F_read_ratio (hr.mono (by decide)) (by rfl) (pa_cons (pe_ix ix_list (pv 1) pe_int (fun _ _ => rfl)) pa_nil)) pa_nil)))))),?_⟩
    have no : (∀ r,Wr4 r → x ≠ pairT r) → ∀ H',Same H H' → E (.ref C) none H' := fun z H' s' => by
      rcases h with ⟨c,e,th,_⟩ | ⟨_,k⟩
      · exact absurd e (z c th)
      · exact k H' s'
    have hjo := StrLaws.join_split x colon
    have yl : (colon.length == 0) = false := rfl
    by_cases hsp : ∃ a b,Txt.split x colon = [a,b]
    · obtain ⟨a,b,e⟩ := hsp
      have la : a.length ≤ x.length := PyProof.Rows.part_short (x := x) (y := colon) (by rw [e]; simp)
      have lb : b.length ≤ x.length := PyProof.Rows.part_short (x := x) (y := colon) (by rw [e]; simp)
      refine ⟨_,rfl,x,colon,rfl,yl,hl,.inl ⟨a,b,e,fun l H1 s1 f1 => ?_⟩⟩
      refine ⟨_,rfl,l,_,_,_,rfl,rfl,SqL.of f1,rfl,a,rfl,by omega,?_⟩
      by_cases ha : ∃ m n : Int,a = showR m n ∧ Wr m n
      · obtain ⟨m,n,rfl,w1⟩ := ha
        refine .inl ⟨m,n,rfl,w1,fun p2 H2 s2 f2 n2 => ?_⟩
        refine ⟨_,rfl,l,_,_,_,rfl,rfl,SqL.of (s2 _ _ f1),rfl,b,rfl,by omega,?_⟩
        by_cases hb : ∃ m n : Int,b = showR m n ∧ Wr m n
        · obtain ⟨m',n',rfl,w2⟩ := hb
          refine .inl ⟨m',n',rfl,w2,fun p3 H3 s3 f3 n3 => ⟨sz (by simp),fun p H4 s4 f4 n4 => ?_⟩⟩
          have S3 := s1.trans (s2.trans s3)
          have ex : x = pairT ((m,n),(m',n')) := by
            rw [← hjo,e]
            unfold pairT
            rw [colon_one]
            rfl
          rcases h with ⟨c,e',th,k⟩ | ⟨z,_⟩
          · have := pair_inj (ex.symm.trans e')
            subst this
            exact k (.ref p) H4 (S3.trans s4) ⟨p,p2,p3,rfl,f4,s4 _ _ (s3 _ _ f2),s4 _ _ f3⟩
          · exact absurd ex (z ((m,n),(m',n')) ⟨w1,w2⟩)
        · refine .inr ⟨fun m n hm e2 => hb ⟨m,n,e2,hm⟩,fun H3 s3 => no (fun c th e' => ?_) H3 (s1.trans (s2.trans s3))⟩
          rw [e',split_pair] at e
          simp only [List.cons.injEq,and_true] at e
          exact hb ⟨_,_,e.2.symm,th.2⟩
      · refine .inr ⟨fun m n hm e2 => ha ⟨m,n,e2,hm⟩,fun H3 s3 => no (fun c th e' => ?_) H3 (s1.trans s3)⟩
        rw [e',split_pair] at e
        simp only [List.cons.injEq,and_true] at e
        exact ha ⟨_,_,e.1.symm,th.1⟩
    · refine ⟨_,rfl,x,colon,rfl,yl,hl,.inr ⟨fun a b e => hsp ⟨a,b,e⟩,fun H1 s1 => no (fun c th e' => ?_) H1 s1⟩⟩
      exact hsp ⟨_,_,by rw [e',split_pair]⟩
def catScope (s : Stmt) : Scope := match s with
  | .Return (some (.Call _ [.BinOp _ _ (.ListComp _ _ sc _) _] _ _)) _ => sc
  | _ => { kind := .function,names := [],isGenerator := false,isCoroutine := false }
def Ok4 (r : R4) : Prop := Wr4 r ∧ (pairT r).length ≤ 249
def spShPp : Sp := fun vs H Q _ => ∃ (w y : Str) (l : Addr) (qs : List (V × R4)),vs = [.str w,.str y,.ref l] ∧ Prs H l qs ∧ qs.length ≤ 200 ∧ (∀ q ∈ qs,Ok4 q.2) ∧ (w.length ≤ 5 ∧ y.length ≤ 5) ∧ ∀ H',Same H H' → Q (.str (paperT w y (qs.map (·.2)))) H'
theorem strs_ofP {qs : List (V × R4)} {ys : List V} (hl : ys.length = (qs.map (·.1)).length) (hr : ∀ (i : Nat) y,ys[i]? = some y → ∃ q,qs[i]? = some q ∧ y = .str (pairT q.2)) : ys = ((qs.map (·.2)).map pairT).map V.str := by
  rw [List.length_map] at hl
  apply List.ext_getElem?
  intro i
  rw [List.map_map,List.map_map,List.getElem?_map]
  cases hy : ys[i]? with
  | none =>
    have := List.getElem?_eq_none_iff.mp hy
    rw [List.getElem?_eq_none (by omega)]
    rfl
  | some y =>
    obtain ⟨q,hq,rfl⟩ := hr i y hy
    rw [hq]
    rfl
theorem paper_sum {w y : Str} {rs : List R4} (h : ∀ r ∈ rs,(pairT r).length ≤ 249) (hl : rs.length ≤ 200) (hw : w.length ≤ 5 ∧ y.length ≤ 5) : ((w :: y :: rs.map pairT).map fun x => x.length).sum ≤ 49810 := by
  have h2 := StrLaws.sumLen_le (B := 249) (rs.map pairT) fun y hy => by
    obtain ⟨c,hc,rfl⟩ := List.mem_map.mp hy
    exact h c hc
  rw [List.length_map] at h2
  simp only [List.map_cons,List.sum_cons]
  omega
theorem paper_join {w y : Str} {rs : List R4} : Txt.join (Str.ofString " ") (w :: y :: rs.map pairT) = paperT w y rs := by
  rw [blank_one]
  exact StrLaws.glued_eq_join _ _
theorem S_law_paper_text : FnScope ["word","way","pairs"] ["word","way","pairs"] (defScope (top 123)) := ⟨rfl,rfl,rfl,by decide +kernel,rfl,by decide +kernel,by decide +kernel⟩
theorem fn_law_paper_text (D_law_paper_text : Df K mg "_law_paper_text" (top 123)) (F_law_shown : Fn P w K mg base "_law_shown" ["a"] 1 spShow) : Fn P w K mg base "_law_paper_text" ["word","way","pairs"] 2 spShPp := by
  refine D_law_paper_text.fn S_law_paper_text (fun _ _ _ _ _ _ us hl => by obtain ⟨_,_,_,rfl⟩ := len3 hl; rfl) (fun vs H Q E h => ?_) (fun f cdv A outer s H vs Q E hr h => ?_)
  · obtain ⟨wd,wy,l,qs,rfl,_⟩ := h
    rfl
  · obtain ⟨wd,wy,l,qs,rfl,L,hl,hs,hwy,q⟩ := h
    have CN : CompN (cxOf CX0 P w K mg base ["word","way","pairs"] "_law_paper_text" (defScope (top 123)) f cdv A outer s H E).nox (catScope ((defBody (top 123)).getD 0 (.Pass ⟨0,0,0,0⟩))) [] "pair" [] :=
      ⟨by rfl,rfl,by decide +kernel,by decide +kernel,rfl,(fun p hp => nomatch hp),by rfl,by decide +kernel,(fun p hp => nomatch hp),⟨rfl,rfl⟩,rfl⟩
    refine ⟨_,(pss_one (ps_ret (pe_bm PySem.F.plainAttrs_str PySem.F.slot_str_join PySem.F.type_str_join mt_join pe_str (pa_cons (pe_op op_catA (pe_lstA (pa_cons (pv 0) (pa_cons (pv 1) pa_nil))) (pe_compA rfl CN (pi_list (pv 2)) (fun fp s₀ H₀ => (pe_op op_add_str (pe_op op_add_str (pe_fn F_law_shown (hr.mono (by decide)) (by rfl) (pa_cons (pe_ix (ix_tupK (K := K) rfl) (pv 0) pe_int (fun _ _ => rfl)) pa_nil)) pe_str) (pe_fn F_law_shown (hr.mono (by decide)) (by rfl) (pa_cons (pe_ix (ix_tupK (K := K) rfl) (pv 0) pe_int (fun _ _ => rfl)) pa_nil)))))) pa_nil)))),?_⟩
    refine ⟨rfl,_,rfl,_,rfl,sz (by simp),fun l1 H1 s1 f1 n1 => ?_⟩
    have L1 := L.mono s1
    refine ⟨_,rfl,l,rfl,⟨_,SqL.of L1.lst⟩,comp_R (SqL.of L1.lst) (by rw [List.length_map]; omega) (fun i v H' => ∃ q,qs[i]? = some q ∧ v = .str (pairT q.2)) (fun i v H H' _ z => z) ?_ ?_⟩
    · intro i y H2 Kc hx s2 kk
      rw [List.getElem?_map] at hx
      obtain ⟨q',hq,rfl⟩ := Option.map_eq_some_iff.mp hx
      have hm := List.mem_of_getElem? hq
      have c1 := (L1.mono s2).prs q' hm
      have c2 := (hs q' hm).1
      obtain ⟨p,a,b,e0,e,e1,e2⟩ := c1
      obtain ⟨w1,w2⟩ := c2
      have za := showR_len w1.top w1.bot
      have zb := showR_len w2.top w2.bot
      have zs : (Str.ofString ":").length = 1 := rfl
      refine ⟨_,rfl,p,_,_,_,e0,rfl,SqT.of e,rfl,a,_,_,rfl,e1,w1.dg,_,_,rfl,rfl,line_sz (by omega),?_⟩
      exact ⟨_,rfl,p,_,_,_,e0,rfl,SqT.of e,rfl,b,_,_,rfl,e2,w2.dg,_,_,rfl,rfl,line_sz (by rw [Str.length_append]; omega),kk _ _ (Same.refl _) ⟨q',hq,rfl⟩⟩
    · intro l2 ys H2 nl s2 f2 hly hr
      have ey := strs_ofP hly hr
      subst ey
      have hs2 : ∀ c ∈ qs.map (·.2),(pairT c).length ≤ 249 := fun c hc => by
        obtain ⟨q',hq,rfl⟩ := List.mem_map.mp hc
        exact (hs q' hq).2
      have hz := paper_sum hs2 (by rw [List.length_map]; exact hl) hwy
      refine ⟨l1,l2,_,_,rfl,rfl,s2 _ _ f1,f2,sz (by simp; omega),fun l3 H3 s3 f3 n3 => ?_⟩
      have f3 : H3 l3 = some (.lst ((wd :: wy :: (qs.map (·.2)).map pairT).map V.str)) := f3
      refine ⟨_,l3,_,rfl,rfl,SqL.of f3,?_,?_⟩
      · have h3 : (Str.ofString " ").length = 1 := rfl
        have h4 : (wd :: wy :: (qs.map (·.2)).map pairT).length ≤ 202 := by simp; omega
        rw [h3]
        omega
      rw [paper_join]
      exact q H3 (s1.trans (s2.trans s3))
def tupScope (s : Stmt) : Scope := match s with
  | .Return (some (.Tuple [_,_,.ListComp _ _ sc _] _ _)) _ => sc
  | _ => { kind := .function,names := [],isGenerator := false,isCoroutine := false }
theorem inV_strs {x : Str} {ws : List Str} : inV (.str x) (ws.map V.str) = decide (x ∈ ws) := by
  induction ws with
  | nil => rfl
  | cons a ws ih =>
    have e : inV (.str x) ((a :: ws).map V.str) = ((a == x) || inV (.str x) (ws.map V.str)) := rfl
    rw [e,ih,Bool.eq_iff_iff]
    simp only [Bool.or_eq_true,beq_iff_eq,decide_eq_true_eq,List.mem_cons]
    exact ⟨fun h => h.imp Eq.symm id,fun h => h.imp Eq.symm id⟩
theorem cut2 {a b : V} {xs : List V} : cutV (a :: b :: xs) (some 2) none = xs := by
  unfold cutV HT.sIx
  simp
theorem flat_strs (ws : List Str) : (ws.map V.str).all flatV = true := by
  rw [List.all_eq_true]
  intro v hv
  obtain ⟨o,_,rfl⟩ := List.mem_map.mp hv
  rfl
theorem prs_of : ∀ {ws : List Str} {ys : List V} {H : Hp},ys.length = ws.length → (∀ (i : Nat) y,ys[i]? = some y → ∃ r,ws[i]? = some (pairT r) ∧ Wr4 r ∧ PrT H y r) →
    ∃ qs : List (V × R4),ys = qs.map (·.1) ∧ ws = (qs.map (·.2)).map pairT ∧ ∀ q ∈ qs,PrT H q.1 q.2 ∧ Wr4 q.2
  | [],[],_,_,_ => ⟨[],rfl,rfl,fun _ h => nomatch h⟩
  | [],_ :: _,_,h,_ => by simp at h
  | _ :: _,[],_,h,_ => by simp at h
  | w :: ws,y :: ys,H,h,hr => by
    obtain ⟨rs,e1,e2,e3⟩ := prs_of (ws := ws) (ys := ys) (H := H) (by simpa using h) fun i y hy => by simpa using hr (i + 1) y (by simpa using hy)
    obtain ⟨r,ew,wr,ep⟩ := hr 0 y rfl
    cases ew
    refine ⟨(y,r) :: rs,by rw [e1]; rfl,by rw [e2]; rfl,fun q hq => ?_⟩
    rcases List.mem_cons.mp hq with rfl | hq
    · exact ⟨ep,wr⟩
    · exact e3 q hq
def Pap (H : Hp) (p : Addr) (w y : Str) (rs : List R4) : Prop := ∃ l qs,H p = some (.tup [.str w,.str y,.ref l]) ∧ Prs H l qs ∧ qs.map (·.2) = rs
def spReadPp (C : Addr) : Sp := fun vs H Q E => ∃ x : Str,vs = [.str x] ∧ x.length ≤ 60000 ∧
  ((∃ w y rs,x = paperT w y rs ∧ OkP w y rs ∧ ∀ (p : Addr) (H' : Hp),Same H H' → Pap H' p w y rs → Q (.ref p) H') ∨ ((∀ w y rs,OkP w y rs → x ≠ paperT w y rs) ∧ ∀ H',Same H H' → E (.ref C) none H'))
theorem at_one {α : Type} (x y : α) (xs : List α) : atI (x :: y :: xs) 1 = some y := by
  unfold atI ixN
  rw [if_pos (by decide),if_pos (by simp only [List.length_cons]; omega)]
  rfl
theorem three {ws : List Str} (h : 3 ≤ ws.length) : ∃ a b c r,ws = a :: b :: c :: r := match ws,h with
  | a :: b :: c :: r,_ => ⟨a,b,c,r,rfl⟩
theorem S_read_paper : FnScope ["text","words"] ["text"] (defScope (top 76)) := ⟨rfl,rfl,rfl,by decide +kernel,rfl,by decide +kernel,by decide +kernel⟩
theorem fn_read_paper {C pW pP : Addr} (D_read_paper : Df K mg "read_paper" (top 76)) (O_NoText : ExcC K mg "NoText" C) (V_MOSTP : ∃ tk,mg "MOST_PAIRS" = some (.int 200 tk)) (G_WAYS : mg "WAYS" = some (.ref pW)) (hW : ∀ H,SqT K H pW (waysL.map V.str)) (G_PAPERS : mg "PAPERS" = some (.ref pP)) (hP : ∀ H,SqT K H pP (wordsL.map V.str)) (F_read_pair : Fx P w K mg base "read_pair" ["text"] 4 [] (spReadP C)) (T : Txt mg) : Fx P w K mg base "read_paper" ["text"] 5 [] (spReadPp C) := by
  refine D_read_paper.fx S_read_paper (fun _ _ _ _ _ _ us hl => by obtain ⟨_,rfl⟩ := len1 hl; rfl) (fun vs H Q E h => ?_) (fun f cdv A outer s H vs Q E hr h => ?_)
  · obtain ⟨x,rfl,_⟩ := h
    rfl
  · obtain ⟨x,rfl,hl,h⟩ := h
    obtain ⟨tM,G_MOST_PAIRS⟩ := V_MOSTP
    have CN : CompN (cxOf (CXE P w) P w K mg base ["text","words"] "read_paper" (defScope (top 76)) f cdv A outer s H E) (tupScope ((defBody (top 76)).getD 2 (.Pass ⟨0,0,0,0⟩))) [] "word" [] :=
      ⟨by rfl,rfl,by decide +kernel,by decide +kernel,rfl,(fun p hp => nomatch hp),by rfl,by decide +kernel,(fun p hp => nomatch hp),⟨rfl,rfl⟩,rfl⟩
    refine ⟨_,(pss_cons (ps_set (i := 1) S_read_paper.nd rfl (Or.inl rfl) (pe_bm PySem.F.plainAttrs_str PySem.F.slot_str_split PySem.F.type_str_split mt_split (pv 0) (pa_cons pe_str pa_nil))) (pss_cons (ps_if (pw_or (pt_not (pt_chain op_le op_le pe_int (pe_callB call_len_seq (by rfl) T.z_len bt_len (pa_cons (pv 1) pa_nil)) (pe_op op_add (pe_glob (v := .int 200) (by rfl) G_MOST_PAIRS ⟨_,rfl⟩) pe_int))) (pw_or (pt_cmpR op_notIn_seq (pe_ix ix_list (pv 1) pe_int (fun _ _ => rfl)) (pe_glob (v := .ref _) (by rfl) G_PAPERS rfl) (by rfl)) (pw_or1 (pt_cmpR op_notIn_seq (pe_ix ix_list (pv 1) pe_int (fun _ _ => rfl)) (pe_glob (v := .ref _) (by rfl) G_WAYS rfl) (by rfl))))).pt (pss_one (ps_raise O_NoText (by rfl))) pss_nil) (pss_one (ps_ret (pe_tupA (pa_cons (pe_ix ix_list (pv 1) pe_int (fun _ _ => rfl)) (pa_cons (pe_ix ix_list (pv 1) pe_int (fun _ _ => rfl)) (pa_cons (pe_compX CN (pi_list (pe_slice sl_listA (pv 1) (po_some pe_int) po_none)) (fun fp s₀ H₀ => (pe_fxB F_read_pair (hr.mono (by decide)) (by rfl) (pa_cons (pv 0) pa_nil)))) pa_nil)))))))),?_⟩
    have no : (∀ w y rs,OkP w y rs → x ≠ paperT w y rs) → ∀ H',Same H H' → E (.ref C) none H' := fun z H' s' => by
      rcases h with ⟨a,b,c,e,th,_⟩ | ⟨_,k⟩
      · exact absurd e (z a b c th)
      · exact k H' s'
    have hpl := PyProof.Rows.split_le x (Str.ofString " ")
    have hjo : Str.join ⟨#[32]⟩ (Txt.split x (Str.ofString " ")) = x := by
      rw [blank_one]
      exact StrLaws.join_split x _
    have hbad : ∀ w y rs,OkP w y rs → x = paperT w y rs → Txt.split x (Str.ofString " ") = w :: y :: rs.map pairT := fun w y rs ok e => by rw [e,split_paper ok.word ok.way]
    have hsh : ∀ q ∈ Txt.split x (Str.ofString " "),q.length ≤ x.length := fun q hq => PyProof.Rows.part_short hq
    refine ⟨_,rfl,rfl,_,_,rfl,rfl,rfl,by omega,fun l1 H1 s1 f1 n1 => ?_⟩
    generalize hws : Txt.split x (Str.ofString " ") = ws at *
    refine ⟨_,rfl,l1,_,rfl,.inl (SqL.of f1),_,_,rfl,rfl,_,rfl,ite3 (fun c1 => ?_) (fun c1 => ?_)⟩
    rotate_left
    · refine ⟨_,rfl,iteT (no (fun w y rs ok e => ?_) H1 s1)⟩
      have c1 : ¬ (3 : Int) ≤ (((ws.map V.str).length : Nat) : Int) := by simpa using c1
      have h1 := hbad w y rs ok e
      have h2 := ok.one
      rw [List.length_map,h1] at c1
      simp at c1
      omega
    have c1 : (3 : Int) ≤ (((ws.map V.str).length : Nat) : Int) := by simpa using c1
    rw [List.length_map] at c1
    refine ⟨_,_,rfl,rfl,_,_,rfl,rfl,_,rfl,ite3 (fun c2 => iteT (no (fun w y rs ok e => ?_) H1 s1)) (fun c2 => ?_)⟩
    · have c2 : ¬ (((ws.map V.str).length : Nat) : Int) ≤ 200 + 2 := by simpa using c2
      have h1 := hbad w y rs ok e
      have h2 := ok.most
      rw [List.length_map,h1] at c2
      simp at c2
      omega
    have c2 : (((ws.map V.str).length : Nat) : Int) ≤ 200 + 2 := by simpa using c2
    rw [List.length_map] at c2
    obtain ⟨w0,w1,w2,wr,rfl⟩ := three (ws := ws) (by omega)
    have f1 : H1 l1 = some (.lst (.str w0 :: .str w1 :: .str w2 :: wr.map V.str)) := f1
    refine ⟨_,rfl,l1,_,_,.str w0,rfl,rfl,SqL.of f1,at_zero _ _,pP,_,rfl,.inr (hP _),rfl,flat_strs _,_,rfl,ite3 (fun c3 => iteT (no (fun w y rs ok e => ?_) H1 s1)) (fun c3 => ?_)⟩
    · have c3 : (!inV (.str w0) (wordsL.map V.str)) = true := c3
      rw [inV_strs] at c3
      have h1 := hbad w y rs ok e
      simp only [List.cons.injEq] at h1
      rw [h1.1] at c3
      simp [ok.word] at c3
    have c3 : (!inV (.str w0) (wordsL.map V.str)) = false := c3
    rw [inV_strs] at c3
    have hw0 : w0 ∈ wordsL := by simpa using c3
    refine ⟨_,rfl,l1,_,_,.str w1,rfl,rfl,SqL.of f1,at_one _ _ _,pW,_,rfl,.inr (hW _),rfl,flat_strs _,_,rfl,ite3 (fun c4 => no (fun w y rs ok e => ?_) H1 s1) (fun c4 => ?_)⟩
    · have c4 : (!inV (.str w1) (waysL.map V.str)) = true := c4
      rw [inV_strs] at c4
      have h1 := hbad w y rs ok e
      simp only [List.cons.injEq] at h1
      rw [h1.2.1] at c4
      simp [ok.way] at c4
    have c4 : (!inV (.str w1) (waysL.map V.str)) = false := c4
    rw [inV_strs] at c4
    have hw1 : w1 ∈ waysL := by simpa using c4
    refine ⟨_,rfl,l1,_,_,.str w0,rfl,rfl,SqL.of f1,at_zero _ _,_,rfl,l1,_,_,.str w1,rfl,rfl,SqL.of f1,at_one _ _ _,?_⟩
    refine ⟨_,rfl,_,rfl,l1,_,rfl,SqL.of f1,fun l5 H5 s5 f5 n5 => ?_⟩
    rw [cut2] at f5
    have f5 : H5 l5 = some (.lst ((w2 :: wr).map V.str)) := f5
    have S5 := s1.trans s5
    refine ⟨l5,rfl,⟨_,SqL.of f5⟩,comp_RB (SqL.of f5) (by rw [List.length_map]; simp at c2 ⊢; omega) (fun i v H' => ∃ r,(w2 :: wr)[i]? = some (pairT r) ∧ Wr4 r ∧ PrT H' v r) (fun i v H H' st ⟨r,e1,e2,e3⟩ => ⟨r,e1,e2,e3.t st⟩) ?_ ?_⟩
    · intro i y H2 Kc hx s2 kk
      rw [List.getElem?_map] at hx
      obtain ⟨wd,hp,rfl⟩ := Option.map_eq_some_iff.mp hx
      have hm := List.mem_of_getElem? hp
      have hsz := hsh wd (List.mem_cons_of_mem _ (List.mem_cons_of_mem _ hm))
      by_cases hc : ∃ r,wd = pairT r ∧ Wr4 r
      · obtain ⟨r,rfl,w4⟩ := hc
        exact ⟨_,rfl,_,rfl,by omega,.inl ⟨r,rfl,w4,fun v H3 s3 f3 => kk _ _ s3 ⟨r,hp,w4,f3⟩⟩⟩
      · refine ⟨_,rfl,_,rfl,by omega,.inr ⟨fun r w4 e => hc ⟨r,e,w4⟩,fun H3 s3 => no (fun w y rs ok e => ?_) H3 (S5.trans (s2.trans s3))⟩⟩
        have h1 := hbad w y rs ok e
        injection h1 with _ h1
        injection h1 with _ h1
        rw [h1] at hm
        obtain ⟨r,hr,e2⟩ := List.mem_map.mp hm
        exact hc ⟨r,e2.symm,ok.prs r hr⟩
    · intro l ys H2 nl s2 f2 hly hr
      rw [List.length_map] at hly
      obtain ⟨qs,ey,ew,hq⟩ := prs_of hly hr
      subst ey
      refine ⟨sz (by simp),fun p H3 s3 f3 n3 => ?_⟩
      have hql : qs.length = (w2 :: wr).length := by rw [ew,List.length_map,List.length_map]
      have ok : OkP w0 w1 (qs.map (·.2)) := ⟨hw0,hw1,by rw [List.length_map,hql]; simp,by rw [List.length_map,hql]; simp at c2 ⊢; omega,fun r hr => by
        obtain ⟨q',hq',rfl⟩ := List.mem_map.mp hr
        exact (hq q' hq').2⟩
      have ex : x = paperT w0 w1 (qs.map (·.2)) := by
        rw [← hjo,ew]
        rfl
      have L : Prs H2 l qs := ⟨f2,fun q' hq' => (hq q' hq').1⟩
      rcases h with ⟨w,y,rs,e,ok',k⟩ | ⟨z,_⟩
      · obtain ⟨rfl,rfl,rfl⟩ := paper_inj ok ok' (ex.symm.trans e)
        exact k p H3 (S5.trans (s2.trans s3)) ⟨l,qs,f3,L.mono s3,rfl⟩
      · exact absurd ex (z _ _ _ ok)
structure LTh2 (H : Hp) (x : V) : Prop where
  kn : ∃ t,Kn H x t
  parts : ∀ p xs,x = .ref p → H p = some (.lst xs) → xs.length ≤ 900 ∧ ∀ y ∈ xs,Thing H y
def spIsLine2 : Sp := fun vs H Q _ => ∃ x,vs = [x] ∧ LTh2 H x ∧ ∀ H',Same H H' → Q (.bl (lineV H x)) H'
def comma : Str := Str.ofString ","
theorem comma_one : comma = ⟨#[44]⟩ := by decide +kernel
def cornT (c : Int × Int) : Str := num c.1 ++ comma ++ num c.2
def lineT (cs : List (Int × Int)) : Str := Str.join ⟨#[32]⟩ (cs.map cornT)
def Th (c : Int × Int) : Prop := c.1.natAbs < 10 ^ 1000 ∧ c.2.natAbs < 10 ^ 1000
def OkL (cs : List (Int × Int)) : Prop := 1 ≤ cs.length ∧ cs.length ≤ 10 ∧ ∀ c ∈ cs,Sm c.1 ∧ Sm c.2
theorem corn_cps (c : Int × Int) : (cornT c).cps.toList = (num c.1).cps.toList ++ 44 :: (num c.2).cps.toList := by
  unfold cornT
  rw [app_list,app_list,comma_one,List.append_assoc]
  rfl
theorem split_corn (c : Int × Int) : Txt.split (cornT c) comma = [num c.1,num c.2] := by
  rw [comma_one]
  have e : cornT c = Str.join ⟨#[44]⟩ [num c.1,num c.2] := by
    unfold cornT
    rw [comma_one]
    rfl
  rw [e]
  refine split_of (by simp) fun q hq => ?_
  simp only [List.mem_cons,List.not_mem_nil,or_false] at hq
  rcases hq with rfl | rfl <;> exact num_no (by decide)
theorem corn_inj {c d : Int × Int} (h : cornT c = cornT d) : c = d := by
  have e : [num c.1,num c.2] = [num d.1,num d.2] := by rw [← split_corn,← split_corn,h]
  simp only [List.cons.injEq,and_true] at e
  exact Prod.ext (num_inj e.1) (num_inj e.2)
theorem corn_noblank (c : Int × Int) : 32 ∉ (cornT c).cps.toList := by
  rw [corn_cps]
  intro h
  rcases List.mem_append.mp h with h | h
  · exact num_no (by decide) h
  · rcases List.mem_cons.mp h with h | h
    · cases h
    · exact num_no (by decide) h
theorem split_line {cs : List (Int × Int)} (h : 1 ≤ cs.length) : Txt.split (lineT cs) (Str.ofString " ") = cs.map cornT := by
  rw [blank_one]
  refine split_of (fun z => ?_) fun q hq => ?_
  · have := congrArg List.length z
    rw [List.length_map,List.length_nil] at this
    omega
  · obtain ⟨c,_,rfl⟩ := List.mem_map.mp hq
    exact corn_noblank c
theorem map_corn_inj : ∀ {as bs : List (Int × Int)},as.map cornT = bs.map cornT → as = bs
  | [],[],_ => rfl
  | [],_ :: _,h => by simp at h
  | _ :: _,[],h => by simp at h
  | a :: as,b :: bs,h => by
    simp only [List.map_cons,List.cons.injEq] at h
    rw [corn_inj h.1,map_corn_inj h.2]
theorem line_inj {as bs : List (Int × Int)} (h1 : 1 ≤ as.length) (h2 : 1 ≤ bs.length) (h : lineT as = lineT bs) : as = bs := map_corn_inj (by rw [← split_line h1,← split_line h2,h])
theorem sm_th {c : Int × Int} (h : Sm c.1 ∧ Sm c.2) : Th c := by
  have b : (999999999999 : Nat) < 10 ^ 1000 := Nat.lt_of_lt_of_le (by decide : 999999999999 < 10 ^ 12) (Nat.pow_le_pow_right (by decide) (by decide))
  obtain ⟨⟨h1,h2⟩,⟨h3,h4⟩⟩ := h
  unfold larg at h1 h2 h3 h4
  exact ⟨Nat.lt_of_le_of_lt (by omega) b,Nat.lt_of_le_of_lt (by omega) b⟩
def spReadC (C : Addr) : Sp := fun vs H Q E => ∃ x : Str,vs = [.str x] ∧ x.length ≤ 60000 ∧
  ((∃ c,x = cornT c ∧ Th c ∧ ∀ (p : Addr) (H' : Hp),Same H H' → H' p = some (.tup [.int c.1,.int c.2]) → H p = none → Q (.ref p) H') ∨ ((∀ c,Th c → x ≠ cornT c) ∧ ∀ H',Same H H' → E (.ref C) none H'))
theorem S_is_line : FnScope ["thing"] ["thing"] (defScope (top 27)) := ⟨rfl,rfl,rfl,by decide +kernel,rfl,by decide +kernel,by decide +kernel⟩
theorem fn_is_line (D_is_line : Df K mg "is_line" (top 27)) (V_MOST : ∃ tk,mg "MOST_CORNERS" = some (.int 10 tk)) (F_is_corner : Fn P w K mg base "is_corner" ["thing"] 3 spCorner) (T : Txt mg) : Fn P w K mg base "is_line" ["thing"] 4 spIsLine2 := by
  obtain ⟨tM,G_MOST_CORNERS⟩ := V_MOST
  refine D_is_line.fn S_is_line (fun _ _ _ _ _ _ us hl => by obtain ⟨_,rfl⟩ := len1 hl; rfl) (fun vs H Q E h => ?_) (fun f cdv A outer s H vs Q E hr h => ?_)
  · obtain ⟨x,rfl,_⟩ := h
    rfl
  · obtain ⟨x,rfl,lt,q⟩ := h
    have CN : CompN (cxOf CX0 P w K mg base ["thing"] "is_line" (defScope (top 27)) f cdv A outer s H E).nox (retScope ((defBody (top 27)).getD 1 (.Pass ⟨0,0,0,0⟩))) [] "corner" [] :=
      ⟨by rfl,rfl,by decide +kernel,by decide +kernel,rfl,(fun p hp => nomatch hp),by rfl,by decide +kernel,(fun p hp => nomatch hp),⟨rfl,rfl⟩,rfl⟩
    obtain ⟨t,k⟩ := lt.kn
    refine ⟨_,(pss_cons (ps_if (pw_or (pt_not (pt_val (pe_callB call_isinst (by rfl) T.z_isinstance bt_isinstance (pa_cons (pv 0) (pa_cons (pe_ty T.z_list bt_list) pa_nil))))) (pw_or1 (pt_not (pt_chain op_le op_le pe_int (pe_callB call_len_seq (by rfl) T.z_len bt_len (pa_cons (pv 0) pa_nil)) (pe_glob (v := .int 10) (by rfl) G_MOST_CORNERS ⟨_,rfl⟩))))).pt (pss_one (ps_ret pe_bl)) pss_nil) (pss_one (ps_ret (pe_callB (call_all rfl) (by rfl) T.z_all bt_all (pa_cons ((pe_comp rfl CN (pi_list (pv 0)) (fun fp s₀ H₀ => (pe_fn F_is_corner (hr.mono (by decide)) (by rfl) (pa_cons (pv 0) pa_nil))))) pa_nil))))),?_⟩
    refine ⟨_,rfl,x,t,"list",rfl,k,.inr (.inr (.inr (.inl rfl))),_,rfl,?_⟩
    rcases Kn.cases_lst k with ⟨p,xs,rfl,e,rfl⟩ | ⟨hl,hs⟩
    · refine iteFalse (by decide) ?_
      obtain ⟨h100,hth⟩ := lt.parts p xs rfl e
      rw [lineV_lst e] at q
      unfold lineL at q
      have bad : (decide ((1 : Int) ≤ (xs.length : Int)) && decide ((xs.length : Int) ≤ 10)) = false → Q (.bl false) H := fun z => by
        have y := q H (Same.refl _)
        rw [z,Bool.false_and] at y
        exact y
      refine ⟨_,rfl,p,xs,rfl,.inl (SqL.of e),_,_,rfl,rfl,_,rfl,ite3 (fun h1 => ?_) (fun h1 => ?_)⟩
      · refine ⟨_,_,rfl,rfl,_,rfl,ite3 (fun h2 => ?_) (fun h2 => ?_)⟩
        · exact bad (by rw [h1,show decide ((xs.length : Int) ≤ 10) = false by simpa using h2]; rfl)
        · have z : (decide ((1 : Int) ≤ (xs.length : Int)) && decide ((xs.length : Int) ≤ 10)) = true := by rw [h1,show decide ((xs.length : Int) ≤ 10) = true by simpa using h2]; rfl
          rw [z,Bool.true_and] at q
          refine ⟨_,rfl,p,rfl,⟨_,SqL.of e⟩,fun l hl => ?_⟩
          refine comp_list (K := K) (a := p) (xs := xs) (l := l) (fv := []) (fun i acc H2 => i ≤ xs.length ∧ acc = ((xs.take i).map (cornV H)).map V.bl ∧ Same H H2 ∧ H2 l = some (.lst acc))
            ⟨Nat.zero_le _,rfl,Same.new hl,upd_same⟩ ?_ ?_ ?_
          · rintro i acc H2 hi ⟨_,rfl,sm,e3⟩
            exact ⟨SqL.of (sm _ _ e),e3,small1000 (by rw [List.length_map,List.length_map,List.length_take]; omega)⟩
          · rintro i y acc H2 Kc hy ⟨hi,rfl,sm,e3⟩ kk
            have hlt : i < xs.length := (List.getElem?_eq_some_iff.mp hy).1
            have ty := hth y (List.mem_of_getElem? hy)
            obtain ⟨kd,kn⟩ := ty.kn
            refine ⟨_,rfl,y,rfl,Thing.mono ty sm,kk _ _ e3 ⟨hlt,?_,fun b o eb => ?_,upd_same⟩⟩
            · rw [cornV_same kn sm,List.take_add_one,hy,List.map_append,List.map_append]
              rfl
            · rw [upd_ne (ne_of_none eb hl)]
              exact sm b o eb
          · rintro acc H2 ⟨_,rfl,sm,e3⟩
            rw [List.take_length] at e3
            have y := q H2 sm
            have al : xs.all (cornV H) = (xs.map (cornV H)).all id := by rw [List.all_map]; rfl
            rw [al] at y
            exact ⟨l,xs.map (cornV H),rfl,SqL.of e3,y⟩
      · refine ⟨_,rfl,iteT (bad ?_)⟩
        rw [h1]
        rfl
    · have y := q H (Same.refl _)
      rw [hl] at y
      rw [hs]
      exact iteT y
theorem S_read_corner : FnScope ["text","parts"] ["text"] (defScope (top 73)) := ⟨rfl,rfl,rfl,by decide +kernel,rfl,by decide +kernel,by decide +kernel⟩
theorem fn_read_corner {C : Addr} (D_read_corner : Df K mg "read_corner" (top 73)) (F_two_parts : Fx P w K mg base "two_parts" ["text","sign"] 1 [] (spTwo C)) (F_read_whole : Fx P w K mg base "read_whole" ["text"] 2 [] (spReadW C)) : Fx P w K mg base "read_corner" ["text"] 3 [] (spReadC C) := by
  refine D_read_corner.fx S_read_corner (fun _ _ _ _ _ _ us hl => by obtain ⟨_,rfl⟩ := len1 hl; rfl) (fun vs H Q E h => ?_) (fun f cdv A outer s H vs Q E hr h => ?_)
  · obtain ⟨x,rfl,_⟩ := h
    rfl
  · obtain ⟨x,rfl,hl,h⟩ := h
    refine ⟨_,(pss_cons (ps_set (i := 1) S_read_corner.nd rfl (Or.inl rfl) (pe_fx F_two_parts (hr.mono (by decide)) (by rfl) (pa_cons (pv 0) (pa_cons pe_str pa_nil)))) (pss_one (ps_ret (pe_tupA (pa_cons (pe_fx F_read_whole (hr.mono (by decide)) (by rfl) (pa_cons (pe_ix ix_list (pv 1) pe_int (fun _ _ => rfl)) pa_nil)) (pa_cons (pe_fx F_read_whole (hr.mono (by decide)) (by rfl) (pa_cons (pe_ix ix_list (pv 1) pe_int (fun _ _ => rfl)) pa_nil)) pa_nil)))))),?_⟩
    have no : (∀ c,Th c → x ≠ cornT c) → ∀ H',Same H H' → E (.ref C) none H' := fun z H' s' => by
      rcases h with ⟨c,e,th,_⟩ | ⟨_,k⟩
      · exact absurd e (z c th)
      · exact k H' s'
    have hjo := StrLaws.join_split x comma
    have yl : (comma.length == 0) = false := rfl
    by_cases hsp : ∃ a b,Txt.split x comma = [a,b]
    · obtain ⟨a,b,e⟩ := hsp
      have la : a.length ≤ x.length := PyProof.Rows.part_short (x := x) (y := comma) (by rw [e]; simp)
      have lb : b.length ≤ x.length := PyProof.Rows.part_short (x := x) (y := comma) (by rw [e]; simp)
      refine ⟨_,rfl,x,comma,rfl,yl,hl,.inl ⟨a,b,e,fun l H1 s1 f1 => ?_⟩⟩
      refine ⟨_,rfl,l,_,_,_,rfl,rfl,SqL.of f1,rfl,a,rfl,by omega,?_⟩
      by_cases ha : ∃ n : Int,a = num n ∧ n.natAbs < 10 ^ 1000
      · obtain ⟨n,rfl,hn⟩ := ha
        refine .inl ⟨n,rfl,hn,fun H2 s2 => ?_⟩
        refine ⟨_,rfl,l,_,_,_,rfl,rfl,SqL.of (s2 _ _ f1),rfl,b,rfl,by omega,?_⟩
        by_cases hb : ∃ m : Int,b = num m ∧ m.natAbs < 10 ^ 1000
        · obtain ⟨m,rfl,hm⟩ := hb
          refine .inl ⟨m,rfl,hm,fun H3 s3 => ⟨sz (by simp),fun p H4 s4 f4 n4 => ?_⟩⟩
          have S3 := s1.trans (s2.trans s3)
          have ex : x = cornT (n,m) := by
            rw [← hjo,e]
            unfold cornT
            rw [comma_one]
            rfl
          rcases h with ⟨c,e',th,k⟩ | ⟨z,_⟩
          · have := corn_inj (ex.symm.trans e')
            subst this
            exact k p H4 (S3.trans s4) f4 (none_of_same S3 n4)
          · exact absurd ex (z (n,m) ⟨hn,hm⟩)
        · refine .inr ⟨fun m hm e2 => hb ⟨m,e2,hm⟩,fun H3 s3 => no (fun c th e' => ?_) H3 (s1.trans (s2.trans s3))⟩
          rw [e',split_corn] at e
          simp only [List.cons.injEq,and_true] at e
          exact hb ⟨c.2,e.2.symm,th.2⟩
      · refine .inr ⟨fun m hm e2 => ha ⟨m,e2,hm⟩,fun H3 s3 => no (fun c th e' => ?_) H3 (s1.trans s3)⟩
        rw [e',split_corn] at e
        simp only [List.cons.injEq,and_true] at e
        exact ha ⟨c.1,e.1.symm,th.1⟩
    · refine ⟨_,rfl,x,comma,rfl,yl,hl,.inr ⟨fun a b e => hsp ⟨a,b,e⟩,fun H1 s1 => no (fun c th e' => ?_) H1 s1⟩⟩
      exact hsp ⟨_,_,by rw [e',split_corn]⟩
structure LineB (H : Hp) (l : Addr) (qs : Crn) : Prop where
  lst : H l = some (.lst (qs.map fun q => V.ref q.1))
  crn : ∀ q ∈ qs,H q.1 = some (.tup [.int q.2.1,.int q.2.2])
theorem small_iff (a : Int) : smallV (.int a) = true ↔ Sm a := by
  show (decide (-larg ≤ a) && decide (a ≤ larg)) = true ↔ _
  rw [Bool.and_eq_true,decide_eq_true_eq,decide_eq_true_eq]
  exact Iff.rfl
theorem LineB.good {H : Hp} {l : Addr} {qs : Crn} (L : LineB H l qs) : lineV H (.ref l) = true ↔ OkL (qs.map (·.2)) := by
  rw [lineV_lst L.lst]
  unfold lineL OkL
  rw [Bool.and_eq_true,Bool.and_eq_true,decide_eq_true_eq,decide_eq_true_eq,List.length_map,List.length_map,List.all_eq_true]
  constructor
  · rintro ⟨⟨h1,h2⟩,h3⟩
    refine ⟨by omega,by omega,fun c hc => ?_⟩
    obtain ⟨q,hq,rfl⟩ := List.mem_map.mp hc
    have := h3 (.ref q.1) (List.mem_map.mpr ⟨q,hq,rfl⟩)
    rw [cornV_tup (L.crn q hq)] at this
    have this : (smallV (.int q.2.1) && smallV (.int q.2.2)) = true := this
    rw [Bool.and_eq_true,small_iff,small_iff] at this
    exact this
  · rintro ⟨h1,h2,h3⟩
    refine ⟨⟨by omega,by omega⟩,fun v hv => ?_⟩
    obtain ⟨q,hq,rfl⟩ := List.mem_map.mp hv
    rw [cornV_tup (L.crn q hq)]
    show (smallV (.int q.2.1) && smallV (.int q.2.2)) = true
    rw [Bool.and_eq_true,small_iff,small_iff]
    exact h3 _ (List.mem_map.mpr ⟨q,hq,rfl⟩)
theorem LineB.m {H : Hp} {l : Addr} {qs : Crn} (L : LineB H l qs) (h : OkL (qs.map (·.2))) : LineM H l qs := ⟨L.lst,fun q hq => ⟨L.crn q hq,h.2.2 _ (List.mem_map.mpr ⟨q,hq,rfl⟩)⟩⟩
theorem LineB.th {H : Hp} {l : Addr} {qs : Crn} (L : LineB H l qs) (h : qs.length ≤ 900) : LTh2 H (.ref l) := ⟨⟨_,.lst L.lst⟩,fun p xs e1 e2 => by
  cases e1
  rw [L.lst] at e2
  cases e2
  refine ⟨by rw [List.length_map]; exact h,fun y hy => ?_⟩
  obtain ⟨q,hq,rfl⟩ := List.mem_map.mp hy
  exact th_two (L.crn q hq)⟩
theorem sm_len {a : Int} (h : Sm a) : (num a).length ≤ 13 := num_len (k := 12) (by decide) (by
  obtain ⟨h1,h2⟩ := h
  unfold larg at h1 h2
  show _ < 1000000000000
  omega)
theorem sm_dg {a : Int} (h : Sm a) : Dg a := Dg.of (k := 12) (by
  obtain ⟨h1,h2⟩ := h
  unfold larg at h1 h2
  show _ < 1000000000000
  omega) (by decide)
theorem corn_len {c : Int × Int} (h : Sm c.1 ∧ Sm c.2) : (cornT c).length ≤ 27 := by
  have h1 := sm_len h.1
  have h2 := sm_len h.2
  have h3 : comma.length = 1 := rfl
  unfold cornT
  rw [Str.length_append,Str.length_append]
  omega
theorem line_len {cs : List (Int × Int)} (h : ∀ c ∈ cs,Sm c.1 ∧ Sm c.2) : (lineT cs).length ≤ 28 * cs.length := by
  have h1 := StrLaws.join_length_le ⟨#[32]⟩ (cs.map cornT)
  have h2 := StrLaws.sumLen_le (B := 27) (cs.map cornT) fun y hy => by
    obtain ⟨c,hc,rfl⟩ := List.mem_map.mp hy
    exact corn_len (h c hc)
  have h3 : (⟨#[32]⟩ : Str).length = 1 := rfl
  rw [List.length_map] at h1 h2
  rw [h3] at h1
  unfold lineT
  omega
theorem join_size {cs : List (Int × Int)} (h : ∀ c ∈ cs,Sm c.1 ∧ Sm c.2) (hl : cs.length ≤ 20) : (((cs.map cornT).map fun x => x.length).sum + (cs.map cornT).length * (Str.ofString " ").length ≤ 16777216) := by
  have h2 := StrLaws.sumLen_le (B := 27) (cs.map cornT) fun y hy => by
    obtain ⟨c,hc,rfl⟩ := List.mem_map.mp hy
    exact corn_len (h c hc)
  have h3 : (Str.ofString " ").length = 1 := rfl
  rw [List.length_map] at h2 ⊢
  rw [h3]
  omega
def spShL : Sp := fun vs H Q _ => ∃ (l : Addr) (qs : Crn),vs = [.ref l] ∧ LineM H l qs ∧ qs.length ≤ 20 ∧ ∀ H',Same H H' → Q (.str (lineT (qs.map (·.2)))) H'
theorem strs_of {qs : Crn} {ys : List V} (hl : ys.length = (qs.map fun (q : Addr × Int × Int) => V.ref q.1).length) (hr : ∀ (i : Nat) y,ys[i]? = some y → ∃ q,qs[i]? = some q ∧ y = .str (cornT q.2)) : ys = ((qs.map (·.2)).map cornT).map V.str := by
  rw [List.length_map] at hl
  apply List.ext_getElem?
  intro i
  rw [List.map_map,List.map_map,List.getElem?_map]
  cases hy : ys[i]? with
  | none =>
    have := List.getElem?_eq_none_iff.mp hy
    rw [List.getElem?_eq_none (by omega)]
    rfl
  | some y =>
    obtain ⟨q,hq,rfl⟩ := hr i y hy
    rw [hq]
    rfl
def spReadL (C : Addr) : Sp := fun vs H Q E => ∃ x : Str,vs = [.str x] ∧ x.length ≤ 800 ∧
  ((∃ cs,x = lineT cs ∧ OkL cs ∧ ∀ (l : Addr) (rs : Crn) (H' : Hp),Same H H' → LineM H' l rs → rs.map (·.2) = cs → Q (.ref l) H') ∨ ((∀ cs,OkL cs → x ≠ lineT cs) ∧ ∀ H',Same H H' → E (.ref C) none H'))
theorem crns_of : ∀ {ws : List Str} {ys : List V} {H : Hp},ys.length = ws.length → (∀ (i : Nat) y,ys[i]? = some y → ∃ p c,y = .ref p ∧ ws[i]? = some (cornT c) ∧ Th c ∧ H p = some (.tup [.int c.1,.int c.2])) →
    ∃ rs : Crn,ys = rs.map (fun q => V.ref q.1) ∧ ws = (rs.map (·.2)).map cornT ∧ ∀ q ∈ rs,H q.1 = some (.tup [.int q.2.1,.int q.2.2])
  | [],[],_,_,_ => ⟨[],rfl,rfl,fun _ h => nomatch h⟩
  | [],_ :: _,_,h,_ => by simp at h
  | _ :: _,[],_,h,_ => by simp at h
  | w :: ws,y :: ys,H,h,hr => by
    obtain ⟨rs,e1,e2,e3⟩ := crns_of (ws := ws) (ys := ys) (H := H) (by simpa using h) fun i y hy => by simpa using hr (i + 1) y (by simpa using hy)
    obtain ⟨p,c,ey,ew,_,ep⟩ := hr 0 y rfl
    cases ew
    refine ⟨(p,c) :: rs,by rw [ey,e1]; rfl,by rw [e2]; rfl,fun q hq => ?_⟩
    rcases List.mem_cons.mp hq with rfl | hq
    · exact ep
    · exact e3 q hq
theorem S_law_line_text : FnScope ["line"] ["line"] (defScope (top 122)) := ⟨rfl,rfl,rfl,by decide +kernel,rfl,by decide +kernel,by decide +kernel⟩
theorem fn_law_line_text (D_law_line_text : Df K mg "_law_line_text" (top 122)) (DG : Dig K) (T : Txt mg) : Fn P w K mg base "_law_line_text" ["line"] 1 spShL := by
  refine D_law_line_text.fn S_law_line_text (fun _ _ _ _ _ _ us hl => by obtain ⟨_,rfl⟩ := len1 hl; rfl) (fun vs H Q E h => ?_) (fun f cdv A outer s H vs Q E hr h => ?_)
  · obtain ⟨l,qs,rfl,_⟩ := h
    rfl
  · obtain ⟨l,qs,rfl,L,hl,q⟩ := h
    have CN : CompN (cxOf CX0 P w K mg base ["line"] "_law_line_text" (defScope (top 122)) f cdv A outer s H E).nox (retScopeAll (retExpr ((defBody (top 122)).getD 0 (.Pass ⟨0,0,0,0⟩)))) [] "corner" [] :=
      ⟨by rfl,rfl,by decide +kernel,by decide +kernel,rfl,(fun p hp => nomatch hp),by rfl,by decide +kernel,(fun p hp => nomatch hp),⟨rfl,rfl⟩,rfl⟩
    refine ⟨_,(pss_one (ps_ret (pe_bm PySem.F.plainAttrs_str PySem.F.slot_str_join PySem.F.type_str_join mt_join pe_str (pa_cons (pe_compA rfl CN (pi_list (pv 0)) (fun fp s₀ H₀ => (pe_op op_add_str (pe_op op_add_str (pe_callTy (call_strI (K := K) rfl DG rfl) (by rfl) T.z_str bt_str (pa_cons (pe_ix (ix_tupK (K := K) rfl) (pv 0) pe_int (fun _ _ => rfl)) pa_nil)) pe_str) (pe_callTy (call_strI (K := K) rfl DG rfl) (by rfl) T.z_str bt_str (pa_cons (pe_ix (ix_tupK (K := K) rfl) (pv 0) pe_int (fun _ _ => rfl)) pa_nil))))) pa_nil)))),?_⟩
    refine ⟨rfl,_,rfl,l,rfl,⟨_,SqL.of L.lst⟩,comp_R (SqL.of L.lst) (by rw [List.length_map]; omega) (fun i v H' => ∃ q,qs[i]? = some q ∧ v = .str (cornT q.2)) (fun i v H H' _ z => z) ?_ ?_⟩
    · intro i y H2 Kc hx s2 kk
      rw [List.getElem?_map] at hx
      obtain ⟨q',hq,rfl⟩ := Option.map_eq_some_iff.mp hx
      obtain ⟨c1,c2,c3⟩ := (L.mono s2).crn q' (List.mem_of_getElem? hq)
      have z1 := sm_len c2
      have z2 := sm_len c3
      have zs : (Str.ofString ",").length = 1 := rfl
      refine ⟨_,rfl,q'.1,_,_,_,rfl,rfl,SqT.of c1,rfl,q'.2.1,rfl,sm_dg c2,_,_,rfl,rfl,line_sz (by omega),?_⟩
      exact ⟨_,rfl,q'.1,_,_,_,rfl,rfl,SqT.of c1,rfl,q'.2.2,rfl,sm_dg c3,_,_,rfl,rfl,line_sz (by rw [Str.length_append]; omega),kk _ _ (Same.refl _) ⟨q',hq,rfl⟩⟩
    · intro l2 ys H2 nl s2 f2 hly hr
      have ey := strs_of hly hr
      subst ey
      have hs : ∀ c ∈ qs.map (·.2),Sm c.1 ∧ Sm c.2 := fun c hc => by
        obtain ⟨q',hq,rfl⟩ := List.mem_map.mp hc
        exact (L.crn q' hq).2
      refine ⟨_,l2,_,rfl,rfl,SqL.of f2,join_size hs (by rw [List.length_map]; exact hl),?_⟩
      have e : Txt.join (Str.ofString " ") ((qs.map (·.2)).map cornT) = lineT (qs.map (·.2)) := by
        rw [blank_one]
        exact StrLaws.glued_eq_join _ _
      rw [e]
      exact q H2 s2
theorem S_read_line : FnScope ["text","line"] ["text"] (defScope (top 74)) := ⟨rfl,rfl,rfl,by decide +kernel,rfl,by decide +kernel,by decide +kernel⟩
theorem fn_read_line {C : Addr} (D_read_line : Df K mg "read_line" (top 74)) (O_NoText : ExcC K mg "NoText" C) (F_read_corner : Fx P w K mg base "read_corner" ["text"] 3 [] (spReadC C)) (F_is_line : Fn P w K mg base "is_line" ["thing"] 4 spIsLine2) (T : Txt mg) : Fx P w K mg base "read_line" ["text"] 5 [] (spReadL C) := by
  refine D_read_line.fx S_read_line (fun _ _ _ _ _ _ us hl => by obtain ⟨_,rfl⟩ := len1 hl; rfl) (fun vs H Q E h => ?_) (fun f cdv A outer s H vs Q E hr h => ?_)
  · obtain ⟨x,rfl,_⟩ := h
    rfl
  · obtain ⟨x,rfl,hl,h⟩ := h
    have CN : CompN (cxOf (CXE P w) P w K mg base ["text","line"] "read_line" (defScope (top 74)) f cdv A outer s H E) (setScope ((defBody (top 74)).getD 0 (.Pass ⟨0,0,0,0⟩))) [] "word" [] :=
      ⟨by rfl,rfl,by decide +kernel,by decide +kernel,rfl,(fun p hp => nomatch hp),by rfl,by decide +kernel,(fun p hp => nomatch hp),⟨rfl,rfl⟩,rfl⟩
    refine ⟨_,(pss_cons (ps_setCompX (j := 1) CN S_read_line.nd rfl rfl (pi_list (pe_bm PySem.F.plainAttrs_str PySem.F.slot_str_split PySem.F.type_str_split mt_split (pv 0) (pa_cons pe_str pa_nil))) (fun fp s₀ H₀ => (pe_fxB F_read_corner (hr.mono (by decide)) (by rfl) (pa_cons (pv 0) pa_nil)))) (pss_cons (ps_if (pt_not (pt_val (pe_fn F_is_line (hr.mono (by decide)) (by rfl) (pa_cons (pv 1) pa_nil)))) (pss_one (ps_raise O_NoText (by rfl))) pss_nil) (pss_one (ps_ret (pv 1))))),?_⟩
    have no : (∀ cs,OkL cs → x ≠ lineT cs) → ∀ H',Same H H' → E (.ref C) none H' := fun z H' s' => by
      rcases h with ⟨c,e,th,_⟩ | ⟨_,k⟩
      · exact absurd e (z c th)
      · exact k H' s'
    have hpl := PyProof.Rows.split_le x (Str.ofString " ")
    have hp1 := PyProof.Rows.split_pos x (Str.ofString " ")
    have hjo : Str.join ⟨#[32]⟩ (Txt.split x (Str.ofString " ")) = x := by
      rw [blank_one]
      exact StrLaws.join_split x _
    refine ⟨_,rfl,rfl,_,_,rfl,rfl,rfl,by omega,fun l1 H1 s1 f1 n1 => ?_⟩
    refine ⟨l1,rfl,⟨_,SqL.of f1⟩,comp_RB (SqL.of f1) (by rw [List.length_map]; omega) (fun i v H' => ∃ p c,v = .ref p ∧ (Txt.split x (Str.ofString " "))[i]? = some (cornT c) ∧ Th c ∧ H' p = some (.tup [.int c.1,.int c.2])) (fun i v H H' st ⟨p,c,e1,e2,e3,e4⟩ => ⟨p,c,e1,e2,e3,st _ _ e4⟩) ?_ ?_⟩
    · intro i y H2 Kc hx s2 kk
      rw [List.getElem?_map] at hx
      obtain ⟨wd,hp,rfl⟩ := Option.map_eq_some_iff.mp hx
      have hm := List.mem_of_getElem? hp
      have hsz := PyProof.Rows.part_short hm
      by_cases hc : ∃ c,wd = cornT c ∧ Th c
      · obtain ⟨c,rfl,th⟩ := hc
        exact ⟨_,rfl,_,rfl,by omega,.inl ⟨c,rfl,th,fun p H3 s3 f3 n3 => kk _ _ s3 ⟨p,c,rfl,hp,th,f3⟩⟩⟩
      · refine ⟨_,rfl,_,rfl,by omega,.inr ⟨fun c th e => hc ⟨c,e,th⟩,fun H3 s3 => no (fun cs ok e => ?_) H3 (s1.trans (s2.trans s3))⟩⟩
        rw [e,split_line ok.1] at hm
        obtain ⟨c,hcm,e2⟩ := List.mem_map.mp hm
        exact hc ⟨c,e2.symm,sm_th (ok.2.2 c hcm)⟩
    · intro l ys H2 nl s2 f2 hly hr
      rw [List.length_map] at hly
      obtain ⟨rs,ey,ew,hc⟩ := crns_of hly hr
      subst ey
      have S2 := s1.trans s2
      have LB : LineB H2 l rs := ⟨f2,hc⟩
      have hrl : rs.length = (Txt.split x (Str.ofString " ")).length := by rw [ew,List.length_map,List.length_map]
      have ex : x = lineT (rs.map (·.2)) := by rw [← hjo,ew]; rfl
      refine ⟨_,rfl,_,rfl,LB.th (by omega),fun H3 s3 => ⟨_,rfl,ite3 (fun c1 => no (fun cs ok e => ?_) H3 (S2.trans s3)) (fun c1 => ?_)⟩⟩
      · have := line_inj (as := rs.map (·.2)) (by rw [List.length_map]; omega) ok.1 (ex.symm.trans e)
        rw [← this] at ok
        rw [LB.good.mpr ok] at c1
        cases c1
      · have ok := LB.good.mp (by simpa using c1)
        refine ⟨_,rfl,?_⟩
        rcases h with ⟨cs,e,ok',k⟩ | ⟨z,_⟩
        · exact k l rs H3 (S2.trans s3) ((LB.m ok).mono s3) (line_inj (by rw [List.length_map]; omega) ok'.1 (ex.symm.trans e))
        · exact absurd ex (z _ ok)
def four (q : Pr) : R4 := ((q.a,q.b),(q.c,q.d))
def zer (r : R4) : Pr := ⟨0,0,0,r.1.1,r.1.2,r.2.1,r.2.2⟩
def zrs (ps : List Pr) : List Pr := (ps.map four).map zer
theorem steps_zer (way : Str) : ∀ ps : List Pr,stepsB way (zrs ps) = stepsB way ps
  | [] => rfl
  | [_] => rfl
  | u :: v :: r => by
    have ih := steps_zer way (v :: r)
    show (stepB way (zer (four u)) (zer (four v)) && stepsB way (zrs (v :: r))) = _
    rw [ih]
    rfl
theorem all_zer (n m : Int) : ∀ ps : List Pr,(zrs ps).all (inB n m) = ps.all (inB n m)
  | [] => rfl
  | u :: r => by
    show (inB n m (zer (four u)) && (zrs r).all (inB n m)) = (inB n m u && r.all (inB n m))
    rw [all_zer n m r]
    rfl
theorem last_zer (ps : List Pr) (h : ps ≠ []) (h' : zrs ps ≠ []) : (zrs ps).getLast h' = zer (four (ps.getLast h)) := by
  simp [zrs]
theorem walk_zer (n m : Int) (way : Str) (ps : List Pr) : walkB n m way (zrs ps) = walkB n m way ps := by
  cases ps with
  | nil => rfl
  | cons f r =>
    show ((zrs (f :: r)).all (inB n m) && (endsB n m way (zer (four f)) ((zrs (f :: r)).getLast (by simp [zrs])) && stepsB way (zrs (f :: r)))) = _
    rw [all_zer,steps_zer,last_zer (f :: r) (by simp),walkB_cons]
    rfl
theorem walk_four {n m : Int} {way : Str} {ps ps' : List Pr} (e : ps.map four = ps'.map four) : walkB n m way ps = walkB n m way ps' := by
  rw [← walk_zer,← walk_zer n m way ps']
  unfold zrs
  rw [e]
theorem side_eq {qs qs' : Crn} (e : qs.map (·.2) = qs'.map (·.2)) (t b : Int) : side0 qs t b = side0 qs' t b ∧ side1 qs t b = side1 qs' t b := by
  have g : ∀ (k : Nat) (xs : Crn),(xs.getD k (0,0,0)).2 = (xs.map (·.2)).getD k (0,0) := fun k xs => by
    rw [List.getD_eq_getElem?_getD,List.getD_eq_getElem?_getD,List.getElem?_map]
    cases xs[k]? <;> rfl
  have hl : qs.length = qs'.length := by
    have := congrArg List.length e
    rw [List.length_map,List.length_map] at this
    exact this
  unfold side0 side1
  rw [g,g,g,g,e,hl]
  exact ⟨rfl,rfl⟩
theorem sqF_eq {qs qs' rs rs' : Crn} (e : qs.map (·.2) = qs'.map (·.2)) (e' : rs.map (·.2) = rs'.map (·.2)) (t b t' b' : Int) : sqF qs t b rs t' b' = sqF qs' t b rs' t' b' := by
  unfold sqF ptX ptY
  rw [(side_eq e t b).1,(side_eq e t b).2,(side_eq e' t' b').1,(side_eq e' t' b').2]
theorem mem_four {ps ps' : List Pr} (e : ps.map four = ps'.map four) {q : Pr} (h : q ∈ ps) : ∃ q' ∈ ps',four q' = four q := by
  have : four q ∈ ps'.map four := by
    rw [← e]
    exact List.mem_map_of_mem h
  obtain ⟨q',h',e'⟩ := List.mem_map.mp this
  exact ⟨q',h',e'⟩
theorem max_eq {qs qs' rs rs' : Crn} {ps ps' : List Pr} {s w : Int} (e1 : qs.map (·.2) = qs'.map (·.2)) (e2 : rs.map (·.2) = rs'.map (·.2)) (e3 : ps.map four = ps'.map four) (h : MaxSq qs rs ps s w) : MaxSq qs' rs' ps' s w := by
  refine ⟨h.low,fun q hq => ?_,?_⟩
  · obtain ⟨q',h',e⟩ := mem_four e3.symm hq
    have := h.most q' h'
    simp only [four,Prod.mk.injEq] at e
    obtain ⟨⟨a1,a2⟩,a3,a4⟩ := e
    rw [a1,a2,a3,a4,sqF_eq e1 e2] at this
    exact this
  · obtain ⟨q,hq,ea⟩ := h.att
    obtain ⟨q',h',e⟩ := mem_four e3 hq
    refine ⟨q',h',?_⟩
    simp only [four,Prod.mk.injEq] at e
    obtain ⟨⟨a1,a2⟩,a3,a4⟩ := e
    rw [a1,a2,a3,a4,← sqF_eq e1 e2]
    exact ea
theorem lst_eq {qs qs' : Crn} (e : qs.map (·.2) = qs'.map (·.2)) : lst_ qs = lst_ qs' := by
  have := congrArg List.length e
  rw [List.length_map,List.length_map] at this
  unfold lst_
  rw [this]
structure PrN (q : Pr) : Prop where
  lx : Low q.a q.b
  ly : Low q.c q.d
  nx : 0 ≤ q.a
  ny : 0 ≤ q.c
  ba : bits q.a ≤ 200
  bb : bits q.b ≤ 60
  bc : bits q.c ≤ 200
  bd : bits q.d ≤ 60
theorem _root_.Wk.PrAt.n {H : Hp} {q : Pr} (h : PrAt H q) : PrN q := ⟨h.lx,h.ly,h.nx,h.ny,h.ba,h.bb,h.bc,h.bd⟩
theorem b200 {a : Int} (h : bits a ≤ 200) : a.natAbs < 10 ^ 61 := Nat.lt_of_lt_of_le (bits_lt h) (by decide)
theorem b60' {a : Int} (h : bits a ≤ 60) : a.natAbs < 10 ^ 19 := Nat.lt_of_lt_of_le (bits_lt h) (by decide)
theorem up1000 {a k : Nat} (h : a < 10 ^ k) (hk : k ≤ 1000) : a < 10 ^ 1000 := Nat.lt_of_lt_of_le h (Nat.pow_le_pow_right (by decide) hk)
theorem showR_pl {a b : Int} (ha : bits a ≤ 200) (hb : bits b ≤ 60) : (showR a b).length ≤ 83 := by
  have l1 := num_len (k := 61) (by decide) (b200 ha)
  have l2 := num_len (k := 19) (by decide) (b60' hb)
  have l3 : slash.length = 1 := rfl
  unfold showR
  split
  · omega
  · rw [Str.length_append,Str.length_append]
    omega
theorem PrN.ok4 {q : Pr} (h : PrN q) : Ok4 (four q) := by
  refine ⟨⟨⟨h.lx,up1000 (b200 h.ba) (by decide),up1000 (b60' h.bb) (by decide)⟩,⟨h.ly,up1000 (b200 h.bc) (by decide),up1000 (b60' h.bd) (by decide)⟩⟩,?_⟩
  have l1 := showR_pl h.ba h.bb
  have l2 := showR_pl h.bc h.bd
  have l3 : colon.length = 1 := rfl
  unfold pairT four
  rw [Str.length_append,Str.length_append]
  dsimp only
  omega
def asV (ps : List Pr) : List (V × R4) := ps.map fun q => (V.ref q.p,four q)
theorem asV_snd (ps : List Pr) : (asV ps).map (·.2) = ps.map four := by
  unfold asV
  rw [List.map_map]
  rfl
theorem pairs_prs {H : Hp} {l : Addr} {ps : List Pr} (h : PairsAt H l ps) : Prs H l (asV ps) := ⟨by
    rw [h.lst]
    unfold asV prs
    rw [List.map_map]
    rfl,fun q hq => by
    obtain ⟨z,hz,rfl⟩ := List.mem_map.mp hq
    have := h.pr z hz
    exact ⟨z.p,z.x,z.y,rfl,this.p_,this.x_,this.y_⟩⟩
theorem prs_pairs0 {H : Hp} : ∀ {qs : List (V × R4)} {ps : List Pr},(∀ q ∈ qs,PrT H q.1 q.2) → qs.map (·.2) = ps.map four → (∀ q ∈ ps,PrN q) → ∃ ps',prs ps' = qs.map (·.1) ∧ ps'.map four = ps.map four ∧ ∀ q ∈ ps',PrAt H q
  | [],[],_,_,_ => ⟨[],rfl,rfl,fun q h => nomatch h⟩
  | [],_ :: _,_,e,_ => by simp at e
  | _ :: _,[],_,e,_ => by simp at e
  | x :: xs,z :: zs,h,e,hn => by
    rw [List.map_cons,List.map_cons,List.cons.injEq] at e
    obtain ⟨ps',e1,e2,e3⟩ := prs_pairs0 (fun q hq => h q (.tail _ hq)) e.2 fun q hq => hn q (.tail _ hq)
    obtain ⟨p,a,b,f0,f1,f2,f3⟩ := h x (.head _)
    have n := hn z (.head _)
    rw [e.1] at f2 f3
    refine ⟨⟨p,a,b,z.a,z.b,z.c,z.d⟩ :: ps',?_,?_,fun q hq => ?_⟩
    · rw [List.map_cons,f0,← e1]
      rfl
    · rw [List.map_cons,List.map_cons,e2]
      rfl
    · rcases List.mem_cons.mp hq with rfl | hq
      · exact ⟨f1,f2,f3,n.lx,n.ly,n.nx,n.ny,n.ba,n.bb,n.bc,n.bd⟩
      · exact e3 q hq
theorem prs_pairs {H : Hp} {l : Addr} {qs : List (V × R4)} {ps : List Pr} (L : Prs H l qs) (e : qs.map (·.2) = ps.map four) (hn : ∀ q ∈ ps,PrN q) : ∃ ps',PairsAt H l ps' ∧ ps'.map four = ps.map four := by
  obtain ⟨ps',e1,e2,e3⟩ := prs_pairs0 L.prs e hn
  exact ⟨ps',⟨by rw [L.lst,e1],e3⟩,e2⟩
abbrev noL (x : Str) : Prop := ∀ cs,OkL cs → x ≠ lineT cs
abbrev noP (x : Str) : Prop := ∀ w y rs,OkP w y rs → x ≠ paperT w y rs
theorem app_assoc (a b c : Str) : a ++ b ++ c = a ++ (b ++ c) := PyProof.Rows.ext_toList (by simp only [app_list,List.append_assoc])
theorem join_end (w : Str) : ∀ {ws : List Str},ws ≠ [] → Str.join ⟨#[32]⟩ (ws ++ [w]) = Str.join ⟨#[32]⟩ ws ++ (⟨#[32]⟩ ++ w)
  | [],h => absurd rfl h
  | [a],_ => app_assoc a ⟨#[32]⟩ w
  | a :: b :: r,_ => by
    show a ++ ⟨#[32]⟩ ++ Str.join ⟨#[32]⟩ (b :: r ++ [w]) = a ++ ⟨#[32]⟩ ++ Str.join ⟨#[32]⟩ (b :: r) ++ (⟨#[32]⟩ ++ w)
    rw [join_end w (by simp)]
    simp only [app_assoc]
theorem join_on (a w : Str) : ∀ ws : List Str,Str.join ⟨#[32]⟩ (ws ++ [a]) ++ w = Str.join ⟨#[32]⟩ (ws ++ [a ++ w])
  | [] => rfl
  | [b] => app_assoc (b ++ ⟨#[32]⟩) a w
  | b :: c :: r => by
    show b ++ ⟨#[32]⟩ ++ Str.join ⟨#[32]⟩ (c :: r ++ [a]) ++ w = b ++ ⟨#[32]⟩ ++ Str.join ⟨#[32]⟩ (c :: r ++ [a ++ w])
    rw [app_assoc,join_on a w (c :: r)]
theorem noL_of {x : Str} {ws : List Str} (e : x = Str.join ⟨#[32]⟩ ws) (hne : ws ≠ []) (hb : ∀ q ∈ ws,32 ∉ q.cps.toList) (h : ∃ w ∈ ws,∀ c : Int × Int,Sm c.1 ∧ Sm c.2 → w ≠ cornT c) : noL x := fun cs ok e2 => by
  have s1 := split_line ok.1
  rw [← e2,e,blank_one,split_of hne hb] at s1
  obtain ⟨w,hw,hc⟩ := h
  rw [s1] at hw
  obtain ⟨c,hc1,rfl⟩ := List.mem_map.mp hw
  exact hc c (ok.2.2 c hc1) rfl
theorem noP_of {x : Str} {ws : List Str} (e : x = Str.join ⟨#[32]⟩ ws) (hne : ws ≠ []) (hb : ∀ q ∈ ws,32 ∉ q.cps.toList) (h : ∀ w y rs,OkP w y rs → ws ≠ w :: y :: rs.map pairT) : noP x := fun w y rs ok e2 => by
  have s1 := split_paper (rs := rs) ok.word ok.way
  rw [← e2,e,blank_one,split_of hne hb] at s1
  exact h w y rs ok s1
theorem corn_alien {w : Str} {k : Nat} (hk : k ∈ w.cps.toList) (h : k ≠ 45 ∧ k ≠ 44 ∧ (k < 48 ∨ 57 < k)) (c : Int × Int) : w ≠ cornT c := fun e => by
  rw [e,corn_cps] at hk
  rcases List.mem_append.mp hk with hk | hk
  · exact num_no ⟨h.1,h.2.2⟩ hk
  · rcases List.mem_cons.mp hk with hk | hk
    · exact h.2.1 hk
    · exact num_no ⟨h.1,h.2.2⟩ hk
theorem corn_none {w : Str} (h : 44 ∉ w.cps.toList) (c : Int × Int) : w ≠ cornT c := fun e => by
  rw [e,corn_cps] at h
  simp at h
theorem corn_cut {w a b : Str} (e : w.cps.toList = a.cps.toList ++ 44 :: b.cps.toList) (ha : 44 ∉ a.cps.toList) {c : Int × Int} (h : w = cornT c) : a = num c.1 ∧ b = num c.2 := by
  rw [h,corn_cps] at e
  obtain ⟨e1,e2⟩ := cut_one (num_no (by decide)) ha e
  exact ⟨(PyProof.Rows.ext_toList e1).symm,(PyProof.Rows.ext_toList e2).symm⟩
theorem num_01 (n : Int) : Str.ofString "01" ≠ num n := fun e => by
  have e' : [48,49] = (num n).cps.toList := by rw [← e]; rfl
  rcases num_cases n with ⟨h,_⟩ | ⟨h,_⟩
  · rw [h] at e'
    have v := digs_val n.natAbs
    rw [← e'] at v
    have v : 1 = n.natAbs := v
    rw [← v] at e'
    exact absurd e' (by decide +kernel)
  · rw [h] at e'
    exact absurd (List.cons.inj e').1 (by decide)
theorem num_m0 (n : Int) : Str.ofString "-0" ≠ num n := fun e => by
  have e' : [45,48] = (num n).cps.toList := by rw [← e]; rfl
  rcases num_cases n with ⟨h,_⟩ | ⟨h,h2⟩
  · rw [h] at e'
    have := digs_all n.natAbs 45 (by rw [← e']; simp)
    omega
  · rw [h] at e'
    have v := digs_val n.natAbs
    rw [← (List.cons.inj e').2] at v
    have v : 0 = n.natAbs := v
    omega
theorem num_mill : Str.ofString "1000000000000" = num 1000000000000 := by decide +kernel
theorem corn_two {w a b : Str} (e : w.cps.toList = a.cps.toList ++ 44 :: b.cps.toList) (ha : 44 ∉ a.cps.toList) (hb : 44 ∈ b.cps.toList) (c : Int × Int) : w ≠ cornT c := fun h => by
  rw [(corn_cut e ha h).2] at hb
  exact num_no (by decide) hb
theorem corn_more (c d : Int × Int) : cornT c ++ Str.ofString ",0" ≠ cornT d :=
  corn_two (a := num c.1) (b := num c.2 ++ Str.ofString ",0") (by rw [app_list,corn_cps,app_list,List.append_assoc]; rfl) (num_no (by decide)) (by rw [app_list]; exact List.mem_append_right _ (by decide)) d
theorem line_end {cs : List (Int × Int)} (h1 : 1 ≤ cs.length) {y w : Str} (e : y = ⟨#[32]⟩ ++ w) (hb : 32 ∉ w.cps.toList) (hw : ∀ c : Int × Int,Sm c.1 ∧ Sm c.2 → w ≠ cornT c) : noL (lineT cs ++ y) := by
  have hne : cs.map cornT ≠ [] := fun z => by
    have := congrArg List.length z
    rw [List.length_map,List.length_nil] at this
    omega
  refine noL_of (ws := cs.map cornT ++ [w]) (by rw [join_end w hne,e]; rfl) (by simp) (fun q hq => ?_) ⟨w,by simp,hw⟩
  rcases List.mem_append.mp hq with hq | hq
  · obtain ⟨c,_,rfl⟩ := List.mem_map.mp hq
    exact corn_noblank c
  · rw [List.mem_singleton.mp hq]
    exact hb
theorem line_begin {cs : List (Int × Int)} (h1 : 1 ≤ cs.length) : noL (Str.ofString " " ++ lineT cs) := by
  obtain ⟨a,r,rfl⟩ : ∃ a r,cs = a :: r := by
    cases cs with
    | nil => simp at h1
    | cons a r => exact ⟨a,r,rfl⟩
  refine noL_of (ws := Str.empty :: (a :: r).map cornT) (by rw [blank_one]; exact (congrArg (· ++ lineT (a :: r)) (empty_app ⟨#[32]⟩)).symm) (by simp) (fun q hq => ?_) ⟨Str.empty,by simp,fun c _ => corn_none (by decide) c⟩
  rcases List.mem_cons.mp hq with rfl | hq
  · decide
  · obtain ⟨c,_,rfl⟩ := List.mem_map.mp hq
    exact corn_noblank c
theorem line_more {cs : List (Int × Int)} (h1 : 1 ≤ cs.length) : noL (lineT cs ++ Str.ofString ",0") := by
  obtain ⟨ds,d,rfl⟩ : ∃ ds d,cs = ds ++ [d] := by
    have hne : cs ≠ [] := fun z => by rw [z] at h1; simp at h1
    exact ⟨cs.dropLast,cs.getLast hne,(List.dropLast_concat_getLast hne).symm⟩
  refine noL_of (ws := ds.map cornT ++ [cornT d ++ Str.ofString ",0"]) (by rw [← join_on,lineT,List.map_append]; rfl) (by simp) (fun q hq => ?_) ⟨cornT d ++ Str.ofString ",0",by simp,fun c _ => corn_more d c⟩
  rcases List.mem_append.mp hq with hq | hq
  · obtain ⟨c,_,rfl⟩ := List.mem_map.mp hq
    exact corn_noblank c
  · rw [List.mem_singleton.mp hq,app_list]
    intro z
    rcases List.mem_append.mp z with z | z
    · exact corn_noblank d z
    · revert z
      decide
theorem one_word {x : Str} (h : 32 ∉ x.cps.toList) (hw : ∀ c : Int × Int,x ≠ cornT c) : noL x := noL_of (ws := [x]) rfl (by simp) (fun q hq => by rw [List.mem_singleton.mp hq]; exact h) ⟨x,by simp,fun c _ => hw c⟩
def badL (x : Str) : List Str := [Str.ofString "",Str.ofString " ",x ++ Str.ofString " ",Str.ofString " " ++ x,x ++ Str.ofString " 1",x ++ Str.ofString " 1/1:0",x ++ Str.ofString " 0,0:0",x ++ Str.ofString ",0",x ++ Str.ofString " 01,2",x ++ Str.ofString " 1000000000000,0",Str.ofString "1;2",Str.ofString "1,2,3",Str.ofString "-0,1"]
theorem badL_no {cs : List (Int × Int)} (h1 : 1 ≤ cs.length) : ∀ y ∈ badL (lineT cs),noL y := fun y hy => by
  simp only [badL,List.mem_cons,List.not_mem_nil,or_false] at hy
  rcases hy with rfl | rfl | rfl | rfl | rfl | rfl | rfl | rfl | rfl | rfl | rfl | rfl | rfl
  · exact one_word (by decide) (corn_none (by decide))
  · exact noL_of (ws := [Str.empty,Str.empty]) (by decide +kernel) (by simp) (by decide) ⟨Str.empty,by simp,fun c _ => corn_none (by decide) c⟩
  · exact line_end h1 (w := Str.empty) (by decide +kernel) (by decide) fun c _ => corn_none (by decide) c
  · exact line_begin h1
  · exact line_end h1 (w := Str.ofString "1") (by decide +kernel) (by decide) fun c _ => corn_none (by decide) c
  · exact line_end h1 (w := Str.ofString "1/1:0") (by decide +kernel) (by decide) fun c _ => corn_none (by decide) c
  · exact line_end h1 (w := Str.ofString "0,0:0") (by decide +kernel) (by decide) fun c _ => corn_alien (k := 58) (by decide) (by decide) c
  · exact line_more h1
  · exact line_end h1 (w := Str.ofString "01,2") (by decide +kernel) (by decide) fun c _ e => num_01 c.1 (corn_cut (a := Str.ofString "01") (b := Str.ofString "2") (by decide +kernel) (by decide) e).1
  · refine line_end h1 (w := Str.ofString "1000000000000,0") (by decide +kernel) (by decide) fun c hc e => ?_
    have := (corn_cut (a := Str.ofString "1000000000000") (b := Str.ofString "0") (by decide +kernel) (by decide) e).1
    rw [num_mill] at this
    have h := num_inj this
    have h2 := hc.1.2
    unfold larg at h2
    omega
  · exact one_word (by decide) (corn_none (by decide))
  · exact one_word (by decide) (corn_two (a := Str.ofString "1") (b := Str.ofString "2,3") (by decide +kernel) (by decide) (by decide))
  · exact one_word (by decide) fun c e => num_m0 c.1 (corn_cut (a := Str.ofString "-0") (b := Str.ofString "1") (by decide +kernel) (by decide) e).1
theorem pair_alien {w : Str} {k : Nat} (hk : k ∈ w.cps.toList) (h : k ≠ 45 ∧ k ≠ 47 ∧ (k < 48 ∨ 57 < k)) (h2 : k ≠ 58) (r : R4) : w ≠ pairT r := fun e => by
  rw [e,pair_cps] at hk
  rcases List.mem_append.mp hk with hk | hk
  · exact showR_no h hk
  · rcases List.mem_cons.mp hk with hk | hk
    · exact h2 hk
    · exact showR_no h hk
theorem pair_none {w : Str} (h : 58 ∉ w.cps.toList) (r : R4) : w ≠ pairT r := fun e => by
  rw [e,pair_cps] at h
  simp at h
theorem pair_cut {w a b : Str} (e : w.cps.toList = a.cps.toList ++ 58 :: b.cps.toList) (ha : 58 ∉ a.cps.toList) {r : R4} (h : w = pairT r) : a = showR r.1.1 r.1.2 ∧ b = showR r.2.1 r.2.2 := by
  rw [h,pair_cps] at e
  obtain ⟨e1,e2⟩ := cut_one (showR_no (by decide)) ha e
  exact ⟨(PyProof.Rows.ext_toList e1).symm,(PyProof.Rows.ext_toList e2).symm⟩
theorem one_num : Str.ofString "1" = num 1 := by decide +kernel
theorem showR_11 (a b : Int) : Str.ofString "1/1" ≠ showR a b := fun e => by
  unfold showR at e
  split at e
  · have : 47 ∉ (num a).cps.toList := num_no (by decide)
    rw [← e] at this
    exact this (by decide)
  · next hb =>
    have e' : (Str.ofString "1/1").cps.toList = (num a).cps.toList ++ 47 :: (num b).cps.toList := by
      rw [e,app_list,app_list,List.append_assoc]
      rfl
    have e2 : (Str.ofString "1").cps.toList ++ 47 :: (Str.ofString "1").cps.toList = (num a).cps.toList ++ 47 :: (num b).cps.toList := by
      rw [← e']
      decide +kernel
    obtain ⟨_,e3⟩ := cut_one (by decide) (num_no (by decide)) e2
    have := PyProof.Rows.ext_toList e3
    rw [one_num] at this
    exact hb (num_inj this).symm
theorem pair_two {w a b : Str} (e : w.cps.toList = a.cps.toList ++ 58 :: b.cps.toList) (ha : 58 ∉ a.cps.toList) (hb : 58 ∈ b.cps.toList) (r : R4) : w ≠ pairT r := fun h => by
  rw [(pair_cut e ha h).2] at hb
  exact showR_no (by decide) hb
theorem paper_blank {w y : Str} {rs : List R4} (hw : w ∈ wordsL) (hy : y ∈ waysL) : ∀ q ∈ w :: y :: rs.map pairT,32 ∉ q.cps.toList := fun q hq => by
  rcases List.mem_cons.mp hq with rfl | hq
  · exact words_noblank _ hw
  · rcases List.mem_cons.mp hq with rfl | hq
    · exact ways_noblank _ hy
    · obtain ⟨c,_,rfl⟩ := List.mem_map.mp hq
      exact pair_noblank c
theorem paper_end {w y : Str} {rs : List R4} (hw : w ∈ wordsL) (hy : y ∈ waysL) {z v : Str} (e : z = ⟨#[32]⟩ ++ v) (hb : 32 ∉ v.cps.toList) (hv : ∀ r,v ≠ pairT r) : noP (paperT w y rs ++ z) := by
  refine noP_of (ws := (w :: y :: rs.map pairT) ++ [v]) (by rw [join_end v (by simp),e]; rfl) (by simp) (fun q hq => ?_) fun w' y' rs' ok h => ?_
  · rcases List.mem_append.mp hq with hq | hq
    · exact paper_blank hw hy q hq
    · rw [List.mem_singleton.mp hq]
      exact hb
  · rw [List.cons_append,List.cons_append,List.cons.injEq,List.cons.injEq] at h
    have hm : v ∈ rs'.map pairT := by
      rw [← h.2.2]
      simp
    obtain ⟨r,_,rfl⟩ := List.mem_map.mp hm
    exact hv r rfl
theorem paper_head {x : Str} {k : Nat} {l : List Nat} (h : x.cps.toList = k :: l) (hk : k ≠ 119 ∧ k ≠ 102) : noP x := fun w y rs ok e => by
  have e1 : (paperT w y rs).cps.toList = w.cps.toList ++ ((⟨#[32]⟩ : Str).cps.toList ++ (Str.join ⟨#[32]⟩ (y :: rs.map pairT)).cps.toList) := by
    show (w ++ ⟨#[32]⟩ ++ Str.join ⟨#[32]⟩ (y :: rs.map pairT)).cps.toList = _
    rw [app_list,app_list,List.append_assoc]
  rw [← e,h] at e1
  have hw := ok.word
  unfold wordsL at hw
  simp only [List.mem_cons,List.not_mem_nil,or_false] at hw
  rcases hw with rfl | rfl
  · exact hk.1 (List.cons.inj e1).1
  · exact hk.2 (List.cons.inj e1).1
theorem paper_few {x : Str} {ws : List Str} (e : x = Str.join ⟨#[32]⟩ ws) (hne : ws ≠ []) (hb : ∀ q ∈ ws,32 ∉ q.cps.toList) (h : ws.length ≤ 2) : noP x := noP_of e hne hb fun w y rs ok z => by
  have := ok.one
  rw [z] at h
  simp at h
  rw [h] at this
  simp at this
theorem paper_way {x a b : Str} {ws : List Str} (e : x = Str.join ⟨#[32]⟩ (a :: b :: ws)) (hb : ∀ q ∈ a :: b :: ws,32 ∉ q.cps.toList) (h : b ∉ waysL) : noP x := noP_of e (by simp) hb fun w y rs ok z => by
  rw [List.cons.injEq,List.cons.injEq] at z
  rw [z.2.1] at h
  exact h ok.way
def wWalk : Str := Str.ofString "walk"
theorem walk_in : wWalk ∈ wordsL := by decide
def badP (x : Str) : List Str := [Str.ofString "",Str.ofString " ",x ++ Str.ofString " ",Str.ofString " " ++ x,x ++ Str.ofString " 1",x ++ Str.ofString " 1/1:0",x ++ Str.ofString " 0,0:0",Str.ofString "walk on",Str.ofString "way on 0:0",Str.ofString "walk up 0:0",Str.ofString "walk on 0:0:0",Txt.upper x,Str.ofString "fence  on 0:0"]
theorem badP_no {y : Str} {rs : List R4} (hy : y ∈ waysL) : ∀ z ∈ badP (paperT wWalk y rs),noP z := fun z hz => by
  simp only [badP,List.mem_cons,List.not_mem_nil,or_false] at hz
  rcases hz with rfl | rfl | rfl | rfl | rfl | rfl | rfl | rfl | rfl | rfl | rfl | rfl | rfl
  · exact paper_few (ws := [Str.empty]) (by decide +kernel) (by simp) (by decide) (by simp)
  · exact paper_head (k := 32) (l := []) (by decide) (by decide)
  · exact paper_end walk_in hy (v := Str.empty) (by decide +kernel) (by decide) (pair_none (by decide))
  · exact paper_head (k := 32) (by rw [app_list]; rfl) (by decide)
  · exact paper_end walk_in hy (v := Str.ofString "1") (by decide +kernel) (by decide) (pair_none (by decide))
  · exact paper_end walk_in hy (v := Str.ofString "1/1:0") (by decide +kernel) (by decide) fun r e => showR_11 _ _ (pair_cut (a := Str.ofString "1/1") (b := Str.ofString "0") (by decide +kernel) (by decide) e).1
  · exact paper_end walk_in hy (v := Str.ofString "0,0:0") (by decide +kernel) (by decide) (pair_alien (k := 44) (by decide) (by decide) (by decide))
  · exact paper_few (ws := [Str.ofString "walk",Str.ofString "on"]) (by decide +kernel) (by simp) (by decide) (by simp)
  · refine noP_of (ws := [Str.ofString "way",Str.ofString "on",Str.ofString "0:0"]) (by decide +kernel) (by simp) (by decide) fun w y rs ok e => ?_
    have := ok.word
    rw [← (List.cons.inj e).1] at this
    revert this
    decide
  · exact paper_way (a := Str.ofString "walk") (b := Str.ofString "up") (ws := [Str.ofString "0:0"]) (by decide +kernel) (by decide) (by decide)
  · refine noP_of (ws := [Str.ofString "walk",Str.ofString "on",Str.ofString "0:0:0"]) (by decide +kernel) (by simp) (by decide) fun w y rs ok e => ?_
    rw [List.cons.injEq,List.cons.injEq] at e
    have hm : Str.ofString "0:0:0" ∈ rs.map pairT := by
      rw [← e.2.2]
      simp
    obtain ⟨r,_,hr⟩ := List.mem_map.mp hm
    exact pair_two (a := Str.ofString "0") (b := Str.ofString "0:0") (by decide +kernel) (by decide) (by decide) r hr.symm
  · have e : paperT wWalk y rs = ⟨#[119]⟩ ++ (Str.ofString "alk" ++ ⟨#[32]⟩ ++ Str.join ⟨#[32]⟩ (y :: rs.map pairT)) := by
      show wWalk ++ ⟨#[32]⟩ ++ Str.join ⟨#[32]⟩ (y :: rs.map pairT) = _
      rw [show wWalk = ⟨#[119]⟩ ++ Str.ofString "alk" by decide +kernel]
      simp only [app_assoc]
    rw [e,PySem.W.KOpn.upper_app,PySem.W.KOpn.upper_one (by decide)]
    exact paper_head (k := 87) (by rw [app_list]; rfl) (by decide)
  · exact paper_way (a := Str.ofString "fence") (b := Str.empty) (ws := [Str.ofString "on",Str.ofString "0:0"]) (by decide +kernel) (by decide) (by decide)
def longE (s w : Int) : Str := Str.ofString "long enough " ++ showR s w
def spNoF : Sp := fun vs _ _ _ => ∃ a b c d : V,vs = [a,b,c,d] ∧ False
def badT (x y z : Str) : Prop := noL x ∨ noL y ∨ noP z
structure GoodT (x y z : Str) (qs rs : Crn) (ps : List Pr) (wy : Str) : Prop where
  ex : x = lineT (qs.map (·.2))
  ey : y = lineT (rs.map (·.2))
  ez : z = paperT wWalk wy (ps.map four)
  ok1 : OkL (qs.map (·.2))
  ok2 : OkL (rs.map (·.2))
  ok3 : OkP wWalk wy (ps.map four)
  nm : ∀ q ∈ ps,PrN q
def lens (x y z : Str) : Prop := x.length ≤ 800 ∧ y.length ≤ 800 ∧ z.length ≤ 60000
def spJud (CT CW : Addr) : Sp := fun vs H Q E => ∃ x y z : Str,vs = [.str x,.str y,.str z] ∧ lens x y z ∧
  ((badT x y z ∧ ∀ H',Same H H' → E (.ref CT) none H') ∨
   (∃ (qs rs : Crn) (ps : List Pr) (wy : Str),GoodT x y z qs rs ps wy ∧ (walkB (lst_ qs) (lst_ rs) wy ps = false → ∀ H',Same H H' → E (.ref CW) none H') ∧
     (walkB (lst_ qs) (lst_ rs) wy ps = true → ∀ (s w : Int) (H' : Hp),MaxSq qs rs ps s w → Same H H' → Q (.str (longE s w)) H')))
def tupT : List V := [.bl true,.bl false,.bl false,.bl false]
def tupW : List V := [.bl false,.bl true,.bl false,.bl false]
def spTold60 : Sp := fun vs H Q _ => ∃ (l : Addr) (x y z : Str),vs = [.ref l] ∧ H l = some (.lst [.str x,.str y,.str z]) ∧ lens x y z ∧
  ((badT x y z ∧ ∀ (r : Addr) (H' : Hp),H' r = some (.tup tupT) → Same H H' → Q (.ref r) H') ∨
   (∃ (qs rs : Crn) (ps : List Pr) (wy : Str),GoodT x y z qs rs ps wy ∧ (walkB (lst_ qs) (lst_ rs) wy ps = false → ∀ (r : Addr) (H' : Hp),H' r = some (.tup tupW) → Same H H' → Q (.ref r) H') ∧
     (walkB (lst_ qs) (lst_ rs) wy ps = true → ∀ (s w : Int) (H' : Hp),MaxSq qs rs ps s w → Same H H' → Q (.str (longE s w)) H')))
theorem way_is {wy : Str} (h : wy ∈ waysL) : isWay wy := by
  unfold waysL at h
  simp only [List.mem_cons,List.not_mem_nil,or_false] at h
  exact h
theorem way_in {wy : Str} (h : isWay wy) : wy ∈ waysL := by
  unfold waysL
  simp only [List.mem_cons,List.not_mem_nil,or_false]
  exact h
theorem len_eq {qs qs' : Crn} (e : qs.map (·.2) = qs'.map (·.2)) : qs.length = qs'.length := by
  have := congrArg List.length e
  rw [List.length_map,List.length_map] at this
  exact this
theorem dg1463 {s w : Int} {H : Hp} {p : Addr} (f : Fr2 H p s w 1463) : (Dg s ∧ Dg w) ∧ (showR s w).length ≤ 2010 := by
  have h : ∀ {x : Int},bits x ≤ 1463 → x.natAbs < 10 ^ 1000 := fun hx => Nat.lt_of_lt_of_le (bits_lt hx) (Nat.le_trans (m := 10 ^ 441) (by decide +kernel) (Nat.pow_le_pow_right (by decide) (by decide)))
  exact ⟨⟨Dg.of (h f.ba) (by decide),Dg.of (h f.bb) (by decide)⟩,showR_len (h f.ba) (h f.bb)⟩
theorem S_fence_square : FnScope ["one","other","fence","way","squares"] ["one","other","fence","way"] (defScope (top 63)) := ⟨rfl,rfl,rfl,by decide +kernel,rfl,by decide +kernel,by decide +kernel⟩
theorem fn_fence_square (D_fence_square : DfD K mg "fence_square" (top 63) [.str "on"]) : Fx P w K mg base "fence_square" ["one","other","fence","way"] 1 [.str "on"] spNoF := by
  refine D_fence_square.fx S_fence_square (fun T kV doc pm an cdv ct us its oT n s hv hl ho hs => ?_) (fun T kV doc pm an cdv ct us its oT n s hv hl ho hs => ?_) (fun vs H Q E h => ?_) (fun f cdv A outer s H vs Q E hr h => ?_)
  · obtain ⟨u,rfl,_⟩ := vals1 hv
    match us,hl with
    | [_,_,_,_],_ => exact BindsTo.of_defaults rfl ho hs rfl rfl
  · obtain ⟨u,rfl,_⟩ := vals1 hv
    have hl1 : us.length = 3 := by simpa using hl
    match us,hl1 with
    | [_,_,_],_ => exact BindsTo.of_defaults rfl ho hs rfl rfl
  · obtain ⟨a,b,c,d,rfl,_⟩ := h
    rfl
  · obtain ⟨a,b,c,d,rfl,hf⟩ := h
    exact hf.elim
theorem S_judged : FnScope ["one","other","paper","first","second","read","way","pairs","bound"] ["one","other","paper"] (defScope (top 90)) := ⟨rfl,rfl,rfl,by decide +kernel,rfl,by decide +kernel,by decide +kernel⟩
theorem fn_judged {CT CW : Addr} (D_judged : Df K mg "judged" (top 90)) (DG : Dig K) (F_read_line : Fx P w K mg base "read_line" ["text"] 5 [] (spReadL CT)) (F_read_paper : Fx P w K mg base "read_paper" ["text"] 5 [] (spReadPp CT)) (F_show_ratio : Fn P w K mg base "show_ratio" ["a"] 1 spShow) (F_fence_square : Fx P w K mg base "fence_square" ["one","other","fence","way"] 1 [.str "on"] spNoF) (F_walk_square : Fx P w K mg base "walk_square" ["one","other","walk","way"] 8 [.str "on"] (spWSq CW)) (T : Txt mg) : Fx P w K mg base "judged" ["one","other","paper"] 9 [] (spJud CT CW) := by
  refine D_judged.fx S_judged (fun _ _ _ _ _ _ us hl => by obtain ⟨_,_,_,rfl⟩ := len3 hl; rfl) (fun vs H Q E h => ?_) (fun f cdv A outer s H vs Q E hr h => ?_)
  · obtain ⟨x,y,z,rfl,_⟩ := h
    rfl
  · obtain ⟨x,y,z,rfl,hl,h⟩ := h
    refine ⟨_,(pss_cons (ps_set (i := 3) S_judged.nd rfl (Or.inl rfl) (pe_fx F_read_line (hr.mono (by decide)) (by rfl) (pa_cons (pv 0) pa_nil))) (pss_cons (ps_set (i := 4) S_judged.nd rfl (Or.inl rfl) (pe_fx F_read_line (hr.mono (by decide)) (by rfl) (pa_cons (pv 1) pa_nil))) (pss_cons (ps_set (i := 5) S_judged.nd rfl (Or.inl rfl) (pe_fx F_read_paper (hr.mono (by decide)) (by rfl) (pa_cons (pv 2) pa_nil))) (pss_cons (ps_set (i := 6) S_judged.nd rfl (Or.inl rfl) (pe_ix ix_tup (pv 5) pe_int (fun _ _ => rfl))) (pss_cons (ps_set (i := 7) S_judged.nd rfl (Or.inl rfl) (pe_ix ix_tup (pv 5) pe_int (fun _ _ => rfl))) (pss_cons (ps_if (pt_cmpR op_eq (pe_ix ix_tup (pv 5) pe_int (fun _ _ => rfl)) pe_str (nomark _)) (pss_cons (ps_set (i := 8) S_judged.nd rfl (Or.inl rfl) (pe_fn F_show_ratio (hr.mono (by decide)) (by rfl) (pa_cons (pe_fx F_fence_square (hr.mono (by decide)) (by rfl) (pa_cons (pv 3) (pa_cons (pv 4) (pa_cons (pv 7) (pa_cons (pv 6) pa_nil))))) pa_nil))) (pss_one (ps_ret (pe_join2 pe_str (pe_fmt (K := K) rfl DG rfl (pv 8)))))) pss_nil) (pss_cons (ps_set (i := 8) S_judged.nd rfl (Or.inl rfl) (pe_fn F_show_ratio (hr.mono (by decide)) (by rfl) (pa_cons (pe_fx F_walk_square (hr.mono (by decide)) (by rfl) (pa_cons (pv 3) (pa_cons (pv 4) (pa_cons (pv 7) (pa_cons (pv 6) pa_nil))))) pa_nil))) (pss_one (ps_ret (pe_join2 pe_str (pe_fmt (K := K) rfl DG rfl (pv 8)))))))))))),?_⟩
    rcases h with ⟨hb,kE⟩ | ⟨qs,rs,ps,wy,gt,kE,kQ⟩
    · by_cases h1 : ∃ cs,x = lineT cs ∧ OkL cs
      · obtain ⟨cs,e1,ok1⟩ := h1
        refine ⟨_,rfl,x,rfl,hl.1,.inl ⟨cs,e1,ok1,fun l1 r1 H1 s1 L1 m1 => ?_⟩⟩
        by_cases h2 : ∃ cs,y = lineT cs ∧ OkL cs
        · obtain ⟨ds,e2,ok2⟩ := h2
          refine ⟨_,rfl,y,rfl,hl.2.1,.inl ⟨ds,e2,ok2,fun l2 r2 H2 s2 L2 m2 => ?_⟩⟩
          refine ⟨_,rfl,z,rfl,hl.2.2,.inr ⟨?_,fun H3 s3 => kE H3 (s1.trans (s2.trans s3))⟩⟩
          rcases hb with hb | hb | hb
          · exact absurd e1 (hb cs ok1)
          · exact absurd e2 (hb ds ok2)
          · exact hb
        · exact ⟨_,rfl,y,rfl,hl.2.1,.inr ⟨fun cs ok e => h2 ⟨cs,e,ok⟩,fun H2 s2 => kE H2 (s1.trans s2)⟩⟩
      · exact ⟨_,rfl,x,rfl,hl.1,.inr ⟨fun cs ok e => h1 ⟨cs,e,ok⟩,fun H1 s1 => kE H1 s1⟩⟩
    · refine ⟨_,rfl,_,rfl,hl.1,.inl ⟨_,gt.ex,gt.ok1,fun l1 r1 H1 s1 L1 m1 => ?_⟩⟩
      refine ⟨_,rfl,_,rfl,hl.2.1,.inl ⟨_,gt.ey,gt.ok2,fun l2 r2 H2 s2 L2 m2 => ?_⟩⟩
      refine ⟨_,rfl,_,rfl,hl.2.2,.inl ⟨_,_,_,gt.ez,gt.ok3,fun t H3 s3 Pt => ?_⟩⟩
      obtain ⟨l3,qt,et,Lt,ert⟩ := Pt
      obtain ⟨ps',PP,ep⟩ := prs_pairs Lt ert gt.nm
      have hpl : ps'.length ≤ 200 := by
        have h1 := congrArg List.length ep
        have h2 := gt.ok3.most
        rw [List.length_map,List.length_map] at h1
        rw [List.length_map] at h2
        omega
      have k1 := len_eq m1
      have k2 := len_eq m2
      have o1 := gt.ok1
      have o2 := gt.ok2
      have a1 := o1.1
      have a2 := o1.2.1
      have b1 := o2.1
      have b2 := o2.2.1
      rw [List.length_map] at a1 a2 b1 b2
      have ew : walkB (lst_ r1) (lst_ r2) wy ps' = walkB (lst_ qs) (lst_ rs) wy ps := by rw [lst_eq m1,lst_eq m2,walk_four ep]
      refine ⟨_,rfl,t,_,_,_,rfl,rfl,SqT.of et,rfl,?_⟩
      refine ⟨_,rfl,t,_,_,_,rfl,rfl,SqT.of et,rfl,?_⟩
      refine ⟨_,rfl,t,_,_,_,rfl,rfl,SqT.of et,rfl,rfl,_,rfl,iteFalse (by decide) ?_⟩
      refine ⟨_,rfl,_,rfl,_,rfl,_,rfl,l1,l2,l3,r1,r2,ps',wy,rfl,⟨(L1.mono (s2.trans s3)).la,by omega,by omega⟩,⟨(L2.mono s3).la,by omega,by omega⟩,PP,by omega,way_is gt.ok3.way,fun hf H4 s4 => kE (by rw [← ew]; exact hf) H4 (s1.trans (s2.trans (s3.trans s4))),fun ht r s' w' H4 fr mx s4 => ?_⟩
      obtain ⟨dg,hz⟩ := dg1463 fr
      have hle : (Str.ofString "long enough ").length = 12 := rfl
      refine ⟨r,s',w',rfl,fr.at_,dg,?_⟩
      exact ⟨_,rfl,line_sz (by omega),_,rfl,.inr ⟨_,rfl,line_sz (by omega),_,rfl,line_sz (by omega),kQ (by rw [← ew]; exact ht) s' w' H4 (max_eq m1 m2 ep mx) (s1.trans (s2.trans (s3.trans s4)))⟩⟩
theorem S_law_told_of : FnScope ["texts","told","e","others"] ["texts"] (defScope (top 125)) := ⟨rfl,rfl,rfl,by decide +kernel,rfl,by decide +kernel,by decide +kernel⟩
theorem fn_law_told_of {B CT CW C1 C2 C3 C4 : Addr} (D_law_told_of : Df K mg "_law_told_of" (top 125)) (O_LeashError : ExcC K mg "LeashError" B) (O_NoText : ExcC K mg "NoText" CT) (O_NoWalk : ExcC K mg "NoWalk" CW) (O_NoFence : ExcC K mg "NoFence" C1) (O_NoLine : ExcC K mg "NoLine" C2) (O_NoPlace : ExcC K mg "NoPlace" C3) (O_NoWay : ExcC K mg "NoWay" C4) (m_NoText : PySem.W.exmOne K (.ref CT) (.ref B) = some true) (f_NoText : ExcF K CT) (it_NoText : PySem.W.kitOne K (.ref CT) (.ref CT) = some true) (iw_NoText : PySem.W.kitOne K (.ref CT) (.ref CW) = some false) (if_NoText : PySem.W.kitOne K (.ref CT) (.ref C1) = some false) (iv_NoText : PySem.W.kitOne K (.ref CT) (.type "ValueError") = some true) (i2_NoText : PySem.W.kitAny K (.ref CT) [.ref C2,.ref C3,.ref C4] = some false) (m_NoWalk : PySem.W.exmOne K (.ref CW) (.ref B) = some true) (f_NoWalk : ExcF K CW) (it_NoWalk : PySem.W.kitOne K (.ref CW) (.ref CT) = some false) (iw_NoWalk : PySem.W.kitOne K (.ref CW) (.ref CW) = some true) (if_NoWalk : PySem.W.kitOne K (.ref CW) (.ref C1) = some false) (iv_NoWalk : PySem.W.kitOne K (.ref CW) (.type "ValueError") = some true) (i2_NoWalk : PySem.W.kitAny K (.ref CW) [.ref C2,.ref C3,.ref C4] = some false) (F_judged : Fx P w K mg base "judged" ["one","other","paper"] 9 [] (spJud CT CW)) (T : Txt mg) : Fn P w K mg base "_law_told_of" ["texts"] 10 spTold60 := by
  refine D_law_told_of.fn S_law_told_of (fun _ _ _ _ _ _ us hl => by obtain ⟨_,rfl⟩ := len1 hl; rfl) (fun vs H Q E h => ?_) (fun f cdv A outer s H vs Q E hr h => ?_)
  · obtain ⟨l,x,y,z,rfl,_⟩ := h
    rfl
  · obtain ⟨l,x,y,z,rfl,hl0,hl,h⟩ := h
    have HM : ∀ Z,(fun D => D = CT ∨ D = CW) Z → PySem.W.exmOne K (.ref Z) (.ref B) = some true := fun Z hC => by
      rcases hC with rfl | rfl
      · exact m_NoText
      · exact m_NoWalk
    have IE : ∀ e : Addr,CallR (Cx.inH (cxOf CX0 P w K mg base ["texts","told","e","others"] "_law_told_of" (defScope (top 125)) f cdv A outer s H E).nox e) (.builtin "isinstance") (rIsEM K (fun D => D = CT ∨ D = CW)) := fun e => call_isexcM fun Z hC => by
      rcases hC with rfl | rfl
      · exact ⟨⟨_,O_NoText⟩,f_NoText⟩
      · exact ⟨⟨_,O_NoWalk⟩,f_NoWalk⟩
    refine ⟨_,(pss_cons (ps_set (i := 1) S_law_told_of.nd rfl (Or.inl rfl) pe_non) (pss_cons (ps_try_asM (i := 2) rfl rfl (pxs_one (px_set (i := 1) S_law_told_of.nd rfl (Or.inl rfl) F_judged (hr.mono (by decide)) (by rfl) (pa_cons (pe_ix ix_list (pv 0) pe_int (fun _ _ => rfl)) (pa_cons (pe_ix ix_list (pv 0) pe_int (fun _ _ => rfl)) (pa_cons (pe_ix ix_list (pv 0) pe_int (fun _ _ => rfl)) pa_nil))))) O_LeashError (by rfl) (HM) rfl S_law_told_of.nd rfl rfl (fun e => (pss_cons (ps_set (i := 3) S_law_told_of.nd rfl (Or.inl rfl) (pe_or (pe_callB (IE e) (by rfl) T.z_isinstance bt_isinstance (pa_cons (pv 2) (pa_cons (pe_tupA (pa_cons (pe_glob (v := .ref _) (by rfl) O_NoLine.bound rfl) (pa_cons (pe_glob (v := .ref _) (by rfl) O_NoPlace.bound rfl) (pa_cons (pe_glob (v := .ref _) (by rfl) O_NoWay.bound rfl) pa_nil)))) pa_nil))) (pe_one (pe_not (pe_callB (IE e) (by rfl) T.z_isinstance bt_isinstance (pa_cons (pv 2) (pa_cons (pe_ty T.z_ValueError bt_ValueError) pa_nil))))))) (pss_one (ps_set (i := 1) S_law_told_of.nd rfl (Or.inl rfl) (pe_tupA (pa_cons (pe_callB (IE e) (by rfl) T.z_isinstance bt_isinstance (pa_cons (pv 2) (pa_cons (pe_glob (v := .ref _) (by rfl) O_NoText.bound rfl) pa_nil))) (pa_cons (pe_callB (IE e) (by rfl) T.z_isinstance bt_isinstance (pa_cons (pv 2) (pa_cons (pe_glob (v := .ref _) (by rfl) O_NoWalk.bound rfl) pa_nil))) (pa_cons (pe_callB (IE e) (by rfl) T.z_isinstance bt_isinstance (pa_cons (pv 2) (pa_cons (pe_glob (v := .ref _) (by rfl) O_NoFence.bound rfl) pa_nil))) (pa_cons (pv 3) pa_nil)))))))))) (pss_one (ps_ret (pv 1))))),?_⟩
    rcases h with ⟨hb,kQ⟩ | ⟨qs,rs,ps,wy,gt,kE,kQ⟩
    · refine ⟨_,rfl,l,_,_,_,rfl,rfl,SqL.of hl0,rfl,_,rfl,l,_,_,_,rfl,rfl,SqL.of hl0,rfl,_,rfl,l,_,_,_,rfl,rfl,SqL.of hl0,rfl,x,y,z,rfl,hl,.inl ⟨hb,fun H1 s1 => ?_⟩⟩
      refine ⟨CT,rfl,.inl rfl,fun e he => ?_⟩
      have fe : (upd H1 e (excO CT e)) e = some (excO CT e) := upd_same
      have se : Same H1 (upd H1 e (excO CT e)) := Same.new he
      generalize upd H1 e (excO CT e) = H2 at fe se ⊢
      refine ⟨_,rfl,sz (by simp),fun pt H3 s3 f3 n3 => ⟨CT,.inl rfl,e,_,_,rfl,s3 _ _ fe,.inr (.inr ⟨pt,[C2,C3,C4],rfl,f3,i2_NoText⟩),?_⟩⟩
      refine ⟨_,rfl,iteFalse (by decide) ?_⟩
      refine ⟨_,rfl,CT,.inl rfl,e,_,_,rfl,s3 _ _ fe,.inr (.inl ⟨_,rfl,iv_NoText⟩),_,rfl,?_⟩
      refine ⟨_,rfl,CT,.inl rfl,e,_,_,rfl,s3 _ _ fe,.inl ⟨_,rfl,it_NoText⟩,_,rfl,CT,.inl rfl,e,_,_,rfl,s3 _ _ fe,.inl ⟨_,rfl,iw_NoText⟩,_,rfl,CT,.inl rfl,e,_,_,rfl,s3 _ _ fe,.inl ⟨_,rfl,if_NoText⟩,_,rfl,sz (by simp),fun r H4 s4 f4 n4 => ?_⟩
      exact ⟨_,rfl,kQ r H4 f4 (s1.trans (se.trans (s3.trans s4)))⟩
    · refine ⟨_,rfl,l,_,_,_,rfl,rfl,SqL.of hl0,rfl,_,rfl,l,_,_,_,rfl,rfl,SqL.of hl0,rfl,_,rfl,l,_,_,_,rfl,rfl,SqL.of hl0,rfl,x,y,z,rfl,hl,.inr ⟨qs,rs,ps,wy,gt,fun hf H1 s1 => ?_,fun ht s' w' H1 mx s1 => ⟨_,rfl,kQ ht s' w' H1 mx s1⟩⟩⟩
      refine ⟨CW,rfl,.inr rfl,fun e he => ?_⟩
      have fe : (upd H1 e (excO CW e)) e = some (excO CW e) := upd_same
      have se : Same H1 (upd H1 e (excO CW e)) := Same.new he
      generalize upd H1 e (excO CW e) = H2 at fe se ⊢
      refine ⟨_,rfl,sz (by simp),fun pt H3 s3 f3 n3 => ⟨CW,.inr rfl,e,_,_,rfl,s3 _ _ fe,.inr (.inr ⟨pt,[C2,C3,C4],rfl,f3,i2_NoWalk⟩),?_⟩⟩
      refine ⟨_,rfl,iteFalse (by decide) ?_⟩
      refine ⟨_,rfl,CW,.inr rfl,e,_,_,rfl,s3 _ _ fe,.inr (.inl ⟨_,rfl,iv_NoWalk⟩),_,rfl,?_⟩
      refine ⟨_,rfl,CW,.inr rfl,e,_,_,rfl,s3 _ _ fe,.inl ⟨_,rfl,it_NoWalk⟩,_,rfl,CW,.inr rfl,e,_,_,rfl,s3 _ _ fe,.inl ⟨_,rfl,iw_NoWalk⟩,_,rfl,CW,.inr rfl,e,_,_,rfl,s3 _ _ fe,.inl ⟨_,rfl,if_NoWalk⟩,_,rfl,sz (by simp),fun r H4 s4 f4 n4 => ?_⟩
      exact ⟨_,rfl,kE hf r H4 f4 (s1.trans (se.trans (s3.trans s4)))⟩
def spDue : Sp := fun vs H Q _ => ∃ (l1 l2 l : Addr) (qs rs : Crn) (ps : List Pr) (wy : Str),vs = [.ref l1,.ref l2,.ref l,.str wy] ∧ (LineM H l1 qs ∧ 1 ≤ qs.length ∧ qs.length ≤ 20) ∧ (LineM H l2 rs ∧ 1 ≤ rs.length ∧ rs.length ≤ 20) ∧ PairsAt H l ps ∧ ps.length < 900 ∧
  (walkB (lst_ qs) (lst_ rs) wy ps = false → ∀ (r : Addr) (H' : Hp),H' r = some (.tup tupW) → Same H H' → Q (.ref r) H') ∧
  (walkB (lst_ qs) (lst_ rs) wy ps = true → ∀ (s w : Int) (H' : Hp),MaxSq qs rs ps s w → Same H H' → Q (.str (longE s w)) H')
theorem S_law_due_of : FnScope ["one","other","pairs","way"] ["one","other","pairs","way"] (defScope (top 126)) := ⟨rfl,rfl,rfl,by decide +kernel,rfl,by decide +kernel,by decide +kernel⟩
theorem fn_law_due_of (D_law_due_of : Df K mg "_law_due_of" (top 126)) (F_law_is_walk : Fn P w K mg base "_law_is_walk" ["one","other","thing","way"] 5 spLWalk) (F_law_walk_square : Fn P w K mg base "_law_walk_square" ["one","other","walk"] 4 spLWS) (F_law_shown : Fn P w K mg base "_law_shown" ["a"] 1 spShow) : Fn P w K mg base "_law_due_of" ["one","other","pairs","way"] 6 spDue := by
  refine D_law_due_of.fn S_law_due_of (fun _ _ _ _ _ _ us hl => by obtain ⟨_,_,_,_,rfl⟩ := len4 hl; rfl) (fun vs H Q E h => ?_) (fun f cdv A outer s H vs Q E hr h => ?_)
  · obtain ⟨l1,l2,l,qs,rs,ps,wy,rfl,_⟩ := h
    rfl
  · obtain ⟨l1,l2,l,qs,rs,ps,wy,rfl,⟨L1,h1,h20⟩,⟨L2,g1,g20⟩,PP,hlen,kE,kQ⟩ := h
    refine ⟨_,(pss_cons (ps_if (pt_not (pt_val (pe_fn F_law_is_walk (hr.mono (by decide)) (by rfl) (pa_cons (pv 0) (pa_cons (pv 1) (pa_cons (pv 2) (pa_cons (pv 3) pa_nil))))))) (pss_one (ps_ret (pe_tupA (pa_cons pe_bl (pa_cons pe_bl (pa_cons pe_bl (pa_cons pe_bl pa_nil))))))) pss_nil) (pss_one (ps_ret (pe_op op_add_str pe_str (pe_fn F_law_shown (hr.mono (by decide)) (by rfl) (pa_cons (pe_fn F_law_walk_square (hr.mono (by decide)) (by rfl) (pa_cons (pv 0) (pa_cons (pv 1) (pa_cons (pv 2) pa_nil)))) pa_nil)))))),?_⟩
    have hql : (qs.map fun (q : Addr × Int × Int) => V.ref q.1).length = qs.length := List.length_map _
    have hrl : (rs.map fun (q : Addr × Int × Int) => V.ref q.1).length = rs.length := List.length_map _
    refine ⟨_,rfl,_,rfl,_,rfl,_,rfl,l1,l2,l,_,_,ps,wy,rfl,⟨L1.lst,by rw [hql]; omega⟩,⟨L2.lst,by rw [hrl]; omega⟩,PP,hlen,fun H1 s1 => ?_⟩
    rw [hql,hrl]
    refine ⟨_,rfl,?_⟩
    cases hc : walkB (lst_ qs) (lst_ rs) wy ps with
    | false =>
      refine iteTrue (by rw [show walkB ((qs.length : Int) - 1) ((rs.length : Int) - 1) wy ps = false from hc]; rfl) ?_
      exact ⟨sz (by simp),fun r H2 s2 f2 n2 => kE hc r H2 f2 (s1.trans s2)⟩
    | true =>
      refine iteFalse (by rw [show walkB ((qs.length : Int) - 1) ((rs.length : Int) - 1) wy ps = true from hc]; decide) ?_
      refine ⟨_,rfl,_,rfl,_,rfl,l1,l2,l,qs,rs,ps,rfl,⟨(L1.mono s1).la,h1,h20⟩,⟨(L2.mono s1).la,g1,g20⟩,PP.mono s1,walk_all hc,fun r s' w' H2 fr mx s2 => ?_⟩
      obtain ⟨dg,hz⟩ := dg1463 fr
      have hle : (Str.ofString "long enough ").length = 12 := rfl
      exact ⟨r,s',w',rfl,fr.at_,dg,_,_,rfl,rfl,line_sz (by omega),kQ hc s' w' H2 mx (s1.trans s2)⟩
theorem paper_len2 {w y : Str} {rs : List R4} (h : ∀ r ∈ rs,(pairT r).length ≤ 167) (hl : rs.length ≤ 101) (hw : w.length ≤ 5 ∧ y.length ≤ 5) : (paperT w y rs).length ≤ 17000 := by
  have h1 := StrLaws.join_length_le ⟨#[32]⟩ (w :: y :: rs.map pairT)
  have h2 := StrLaws.sumLen_le (B := 167) (rs.map pairT) fun y hy => by
    obtain ⟨c,hc,rfl⟩ := List.mem_map.mp hy
    exact h c hc
  have h3 : (⟨#[32]⟩ : Str).length = 1 := rfl
  have h4 : (w :: y :: rs.map pairT).length ≤ 103 := by simp; omega
  rw [List.length_map] at h2
  rw [h3] at h1
  simp only [List.map_cons,List.sum_cons] at h1
  unfold paperT
  omega
theorem PrN.len {q : Pr} (h : PrN q) : (pairT (four q)).length ≤ 167 := by
  have l1 := showR_pl h.ba h.bb
  have l2 := showR_pl h.bc h.bd
  have l3 : colon.length = 1 := rfl
  unfold pairT four
  rw [Str.length_append,Str.length_append]
  dsimp only
  omega
def spBad : Sp := fun vs H Q _ => ∃ (p l : Addr) (x y z : Str) (a k : Int),vs = [.ref p,.ref l,.int a] ∧ Pot H p k ∧ k ≤ 800000 ∧ H l = some (.lst [.str x,.str y,.str z]) ∧ (0 ≤ a ∧ a ≤ 2) ∧ l ≠ p ∧
  ((∃ cs,x = lineT cs ∧ OkL cs) ∧ (∃ cs,y = lineT cs ∧ OkL cs) ∧ ∃ wy rs,z = paperT wWalk wy rs ∧ wy ∈ waysL) ∧ (x.length ≤ 600 ∧ y.length ≤ 600 ∧ z.length ≤ 17000) ∧
  ∀ (r : Addr) (x' y' z' : Str) (H' : Hp),H' r = some (.lst [.str x',.str y',.str z']) → badT x' y' z' → lens x' y' z' → But p H H' → Pot H' p (k + 2) → Q (.ref r) H'
theorem badL_len {x : Str} (h : x.length ≤ 600) : ∀ y ∈ badL x,y.length ≤ 800 := fun y hy => by
  have e1 : (Str.ofString " ").length = 1 := rfl
  have e2 : (Str.ofString " 1").length = 2 := rfl
  have e3 : (Str.ofString " 1/1:0").length = 6 := rfl
  have e4 : (Str.ofString " 0,0:0").length = 6 := rfl
  have e5 : (Str.ofString ",0").length = 2 := rfl
  have e6 : (Str.ofString " 01,2").length = 5 := rfl
  have e7 : (Str.ofString " 1000000000000,0").length = 16 := rfl
  simp only [badL,List.mem_cons,List.not_mem_nil,or_false] at hy
  rcases hy with rfl | rfl | rfl | rfl | rfl | rfl | rfl | rfl | rfl | rfl | rfl | rfl | rfl <;> first | (rw [Str.length_append]; omega) | decide
theorem badP_len {x : Str} (h : x.length ≤ 17000) : ∀ y ∈ badP x,y.length ≤ 60000 := fun y hy => by
  have e1 : (Str.ofString " ").length = 1 := rfl
  have e2 : (Str.ofString " 1").length = 2 := rfl
  have e3 : (Str.ofString " 1/1:0").length = 6 := rfl
  have e4 : (Str.ofString " 0,0:0").length = 6 := rfl
  have e5 := PyProof.Rows.len_upper x
  simp only [badP,List.mem_cons,List.not_mem_nil,or_false] at hy
  rcases hy with rfl | rfl | rfl | rfl | rfl | rfl | rfl | rfl | rfl | rfl | rfl | rfl | rfl <;> first | (rw [Str.length_append]; omega) | omega | decide
theorem S_law_bad : FnScope ["pot","texts","at","made","some"] ["pot","texts","at"] (defScope (top 124)) := ⟨rfl,rfl,rfl,by decide +kernel,rfl,by decide +kernel,by decide +kernel⟩
theorem fn_law_bad (D_law_bad : Df K mg "_law_bad" (top 124)) (F_law_take : Fn P w K mg base "_law_take" ["pot","size"] 1 Dr.spTk) (T : Txt mg) : Fn P w K mg base "_law_bad" ["pot","texts","at"] 2 spBad := by
  refine D_law_bad.fn S_law_bad (fun _ _ _ _ _ _ us hl => by obtain ⟨_,_,_,rfl⟩ := len3 hl; rfl) (fun vs H Q E h => ?_) (fun f cdv A outer s H vs Q E hr h => ?_)
  · obtain ⟨p,l,x,y,z,a,k,rfl,_⟩ := h
    rfl
  · obtain ⟨p,l,x,y,z,a,k,rfl,p0,hk,hl,⟨a0,a2⟩,nlp,⟨⟨c1,ex,ok1⟩,⟨c2,ey,ok2⟩,wy,prs_,ez,hw⟩,⟨zx,zy,zz⟩,q⟩ := h
    have R : ∃ u : TS,PSs (cxOf CX0 P w K mg base ["pot","texts","at","made","some"] "_law_bad" (defScope (top 124)) f cdv A outer s H E).nox ((defBody (top 124)).drop 3) u ∧ ∀ (mk ls : Addr) (ss : List Str) (H3 : Hp),H3 ls = some (.lst (ss.map V.str)) → H3 mk = some (.lst [.str x,.str y,.str z]) → ss.length = 13 → (a < 2 → ∀ v ∈ ss,noL v ∧ v.length ≤ 800) → (a = 2 → ∀ v ∈ ss,noP v ∧ v.length ≤ 60000) → Same H H3 → H mk = none → H ls = none → u { nx := fun _ H' => Q .non H',rt := Q } [some (.ref p),some (.ref l),some (.int a),some (.ref mk),some (.ref ls)] H3 := by
      refine ⟨_,(pss_cons (ps_asg (pe_ix ix_list (pv 4) (pe_fn F_law_take (hr.mono (by decide)) (by rfl) (pa_cons (pv 0) (pa_cons (pe_callB call_len_seq (by rfl) T.z_len bt_len (pa_cons (pv 4) pa_nil)) pa_nil))) (fun _ _ => rfl)) (pg_sub (pv 3) (pv 2) set_listA)) (pss_one (ps_ret (pv 3)))),fun mk ls ss H3 f3 g3 hs hL hP s3 n1 n2 => ?_⟩
      have p3 := p0.same s3
      refine ⟨_,rfl,_,rfl,_,rfl,ls,_,rfl,.inl (SqL.of f3),p,_,_,rfl,p3,by omega,⟨by rw [List.length_map,hs]; decide,by rw [List.length_map,hs]; decide⟩,fun r8 H8 a8 b8' b8 p8 => ?_⟩
      refine menu (b8 _ _ (Pot.ne p0 n2) f3) a8 b8' fun v hv => ?_
      obtain ⟨s,hs',rfl⟩ := List.mem_map.mp hv
      refine ⟨_,rfl,_,rfl,mk,_,_,_,rfl,rfl,b8 _ _ (Pot.ne p0 n1) g3,ixN_of a0 (by show a < ((3 : Nat) : Int); omega),fun H9 u9 => ?_⟩
      have B9 := but_upd ((But.of s3).trans b8) u9 n1
      have P9 := (pot_upd u9 p8 (Pot.ne p0 n1)).mono (k' := k + 2) (by omega)
      refine ⟨_,rfl,?_⟩
      rcases (show a = 0 ∨ a = 1 ∨ a = 2 by omega) with rfl | rfl | rfl
      · obtain ⟨h1,h2⟩ := hL (by decide) s hs'
        exact q mk s y z H9 u9.now (.inl h1) ⟨h2,by omega,by omega⟩ B9 P9
      · obtain ⟨h1,h2⟩ := hL (by decide) s hs'
        exact q mk x s z H9 u9.now (.inr (.inl h1)) ⟨by omega,h2,by omega⟩ B9 P9
      · obtain ⟨h1,h2⟩ := hP rfl s hs'
        exact q mk x y s H9 u9.now (.inr (.inr h1)) ⟨by omega,by omega,h2⟩ B9 P9
    obtain ⟨u,hu,rd⟩ := R
    refine ⟨_,(pss_cons (ps_set (i := 3) S_law_bad.nd rfl (Or.inl rfl) (pe_callTy call_list_ofA (by rfl) T.z_list bt_list (pa_cons (pv 1) pa_nil))) (@pss_cons _ _ _ _ _ (@ps_set _ _ 4 _ _ _ _ S_law_bad.nd rfl (Or.inl rfl) (@pe_lstA _ _ _ _ (@pa_cons _ _ _ _ _ pe_str (@pa_cons _ _ _ _ _ pe_str (@pa_cons _ _ _ _ _ (pe_op op_add_str (pe_ix ix_list (pv 1) (pv 2) (fun _ _ => rfl)) pe_str) (@pa_cons _ _ _ _ _ (pe_op op_add_str pe_str (pe_ix ix_list (pv 1) (pv 2) (fun _ _ => rfl))) (@pa_cons _ _ _ _ _ (pe_op op_add_str (pe_ix ix_list (pv 1) (pv 2) (fun _ _ => rfl)) pe_str) (@pa_cons _ _ _ _ _ (pe_op op_add_str (pe_ix ix_list (pv 1) (pv 2) (fun _ _ => rfl)) pe_str) (@pa_cons _ _ _ _ _ (pe_op op_add_str (pe_ix ix_list (pv 1) (pv 2) (fun _ _ => rfl)) pe_str) pa_nil (by rfl)) (by rfl)) (by rfl)) (by rfl)) (by rfl)) (by rfl)) (by rfl))) (by rfl) (by first | exact .inl rfl | exact .inr rfl | assumption)) (pss_cons (ps_if (pt_cmpR op_lt (pv 2) pe_int (nomark _)) (pss_one (ps_set (i := 4) S_law_bad.nd rfl (Or.inl rfl) (pe_op op_catA (pv 4) (@pe_lstA _ _ _ _ (@pa_cons _ _ _ _ _ (pe_op op_add_str (pe_ix ix_list (pv 1) (pv 2) (fun _ _ => rfl)) pe_str) (@pa_cons _ _ _ _ _ (pe_op op_add_str (pe_ix ix_list (pv 1) (pv 2) (fun _ _ => rfl)) pe_str) (@pa_cons _ _ _ _ _ (pe_op op_add_str (pe_ix ix_list (pv 1) (pv 2) (fun _ _ => rfl)) pe_str) (@pa_cons _ _ _ _ _ pe_str (@pa_cons _ _ _ _ _ pe_str (@pa_cons _ _ _ _ _ pe_str pa_nil (by rfl)) (by rfl)) (by rfl)) (by rfl)) (by rfl)) (by rfl)))))) (pss_one (ps_set (i := 4) S_law_bad.nd rfl (Or.inl rfl) (pe_op op_catA (pv 4) (@pe_lstA _ _ _ _ (@pa_cons _ _ _ _ _ pe_str (@pa_cons _ _ _ _ _ pe_str (@pa_cons _ _ _ _ _ pe_str (@pa_cons _ _ _ _ _ pe_str (@pa_cons _ _ _ _ _ (pe_bm0 PySem.F.plainAttrs_str PySem.F.slot_str_upper PySem.F.type_str_upper mt_upper (pe_ix ix_list (pv 1) (pv 2) (fun _ _ => rfl))) (@pa_cons _ _ _ _ _ pe_str pa_nil (by rfl)) (by rfl)) (by rfl)) (by rfl)) (by rfl)) (by rfl))))))) hu))),?_⟩
    obtain ⟨tx,hat,hsz,hcl⟩ : ∃ tx : Str,atI [V.str x,V.str y,V.str z] a = some (.str tx) ∧ tx.length ≤ 17000 ∧ ((a < 2 ∧ tx.length ≤ 600 ∧ ∃ cs,tx = lineT cs ∧ OkL cs) ∨ (a = 2 ∧ tx = z)) := by
      rcases (show a = 0 ∨ a = 1 ∨ a = 2 by omega) with rfl | rfl | rfl
      · exact ⟨x,rfl,by omega,.inl ⟨by decide,zx,c1,ex,ok1⟩⟩
      · exact ⟨y,rfl,by omega,.inl ⟨by decide,zy,c2,ey,ok2⟩⟩
      · exact ⟨z,rfl,by omega,.inr ⟨rfl,rfl⟩⟩
    have e1 : (Str.ofString " ").length = 1 := rfl
    have e2 : (Str.ofString " 1").length = 2 := rfl
    have e3 : (Str.ofString " 1/1:0").length = 6 := rfl
    have e4 : (Str.ofString " 0,0:0").length = 6 := rfl
    have e5 : (Str.ofString ",0").length = 2 := rfl
    have e6 : (Str.ofString " 01,2").length = 5 := rfl
    have e7 : (Str.ofString " 1000000000000,0").length = 16 := rfl
    refine ⟨_,rfl,l,_,rfl,.inl (SqL.of hl),fun mk H1 s1 f1 n1 => ?_⟩
    refine ⟨_,rfl,_,rfl,l,_,_,_,rfl,rfl,SqL.of (s1 _ _ hl),hat,_,_,rfl,rfl,line_sz (by omega),_,rfl,_,rfl,l,_,_,_,rfl,rfl,SqL.of (s1 _ _ hl),hat,_,_,rfl,rfl,line_sz (by omega),_,rfl,_,rfl,l,_,_,_,rfl,rfl,SqL.of (s1 _ _ hl),hat,_,_,rfl,rfl,line_sz (by omega),_,rfl,_,rfl,l,_,_,_,rfl,rfl,SqL.of (s1 _ _ hl),hat,_,_,rfl,rfl,line_sz (by omega),_,rfl,_,rfl,l,_,_,_,rfl,rfl,SqL.of (s1 _ _ hl),hat,_,_,rfl,rfl,line_sz (by omega),sz (by simp),fun l2 H2 s2 f2 n2 => ?_⟩
    have S2 := s1.trans s2
    have n2' : H l2 = none := none_of_same s1 n2
    refine ⟨_,rfl,_,_,rfl,rfl,_,rfl,ite3 (fun cc => ?_) (fun cc => ?_)⟩
    · have cc : a < 2 := dec_t cc
      refine ⟨_,rfl,_,rfl,_,rfl,l,_,_,_,rfl,rfl,SqL.of (S2 _ _ hl),hat,_,_,rfl,rfl,line_sz (by omega),_,rfl,_,rfl,l,_,_,_,rfl,rfl,SqL.of (S2 _ _ hl),hat,_,_,rfl,rfl,line_sz (by omega),_,rfl,_,rfl,l,_,_,_,rfl,rfl,SqL.of (S2 _ _ hl),hat,_,_,rfl,rfl,line_sz (by omega),sz (by simp),fun l3 H3 s3 f3 n3 => ?_⟩
      refine ⟨l2,l3,_,_,rfl,rfl,s3 _ _ f2,f3,sz (by simp),fun l4 H4 s4 f4 n4 => ?_⟩
      obtain ⟨cs,et,ok⟩ : ∃ cs,tx = lineT cs ∧ OkL cs := by
        rcases hcl with ⟨_,_,h⟩ | ⟨h,_⟩
        · exact h
        · omega
      have hz : tx.length ≤ 600 := by
        rcases hcl with ⟨_,h,_⟩ | ⟨h,_⟩
        · exact h
        · omega
      have f4 : H4 l4 = some (.lst ((badL tx).map V.str)) := f4
      exact rd mk l4 (badL tx) H4 f4 (s4 _ _ (s3 _ _ (s2 _ _ f1))) rfl (fun _ v hv => ⟨by rw [et] at hv; exact badL_no ok.1 v hv,badL_len hz v hv⟩) (fun h => by omega) (S2.trans (s3.trans s4)) n1 (none_of_same (S2.trans s3) n4)
    · have cc : ¬ a < 2 := dec_f cc
      have et : tx = z := by
        rcases hcl with ⟨h,_,_⟩ | ⟨_,h⟩
        · exact absurd h cc
        · exact h
      refine ⟨_,rfl,_,rfl,_,rfl,l,_,_,_,rfl,rfl,SqL.of (S2 _ _ hl),hat,rfl,_,rfl,rfl,by omega,sz (by simp),fun l3 H3 s3 f3 n3 => ?_⟩
      refine ⟨l2,l3,_,_,rfl,rfl,s3 _ _ f2,f3,sz (by simp),fun l4 H4 s4 f4 n4 => ?_⟩
      have f4 : H4 l4 = some (.lst ((badP tx).map V.str)) := f4
      exact rd mk l4 (badP tx) H4 f4 (s4 _ _ (s3 _ _ (s2 _ _ f1))) rfl (fun h => absurd h cc) (fun _ v hv => ⟨by rw [et,ez] at hv; exact badP_no hw v hv,badP_len hsz v hv⟩) (S2.trans (s3.trans s4)) n1 (none_of_same (S2.trans s3) n4)
theorem way5' : ∀ w ∈ waysL,w.length ≤ 5 := by decide +kernel
theorem lineM_ok {H : Hp} {l : Addr} {qs : Crn} (L : LineM H l qs) (h1 : 1 ≤ qs.length) (h2 : qs.length ≤ 10) : OkL (qs.map (·.2)) := ⟨by rw [List.length_map]; exact h1,by rw [List.length_map]; exact h2,fun c hc => by
  obtain ⟨q,hq,rfl⟩ := List.mem_map.mp hc
  exact (L.crn q hq).2⟩
theorem pairs_but {H H' : Hp} {p l : Addr} {ps : List Pr} {k : Int} (P : PairsAt H l ps) (b : But p H H') (pt : Pot H p k) (n : l ≠ p) : PairsAt H' l ps := ⟨b _ _ n P.lst,fun q hq => (P.pr q hq).t (b.t pt)⟩
theorem tw_rp {H : Hp} {r : Addr} (e : H r = some (.tup tupW)) : Rp H 9 (.ref r) (.tup [.bl false,.bl true,.bl false,.bl false]) := Rp.t4 e .bl .bl .bl .bl
theorem tt_rp {H : Hp} {r : Addr} (e : H r = some (.tup tupT)) : Rp H 9 (.ref r) (.tup [.bl true,.bl false,.bl false,.bl false]) := Rp.t4 e .bl .bl .bl .bl
def spRight60 : Sp := fun vs H Q _ => ∃ (p l1 l2 l : Addr) (qs rs : Crn) (ps : List Pr) (wy : Str) (k : Int),vs = [.ref p,.ref l1,.ref l2,.ref l,.str wy] ∧ Pot H p k ∧ k ≤ 700000 ∧ (LineM H l1 qs ∧ 1 ≤ qs.length ∧ qs.length ≤ 10) ∧ (LineM H l2 rs ∧ 1 ≤ rs.length ∧ rs.length ≤ 10) ∧ PairsAt H l ps ∧ (1 ≤ ps.length ∧ ps.length ≤ 101) ∧ isWay wy ∧ ∀ H',But p H H' → Pot H' p (k + 3) → Q (.bl true) H'
theorem S_law_right : FnScope ["pot","one","other","pairs","way","texts"] ["pot","one","other","pairs","way"] (defScope (top 127)) := ⟨rfl,rfl,rfl,by decide +kernel,rfl,by decide +kernel,by decide +kernel⟩
theorem fn_law_right (D_law_right : Df K mg "_law_right" (top 127)) (F_law_line_text : Fn P w K mg base "_law_line_text" ["line"] 1 spShL) (F_law_paper_text : Fn P w K mg base "_law_paper_text" ["word","way","pairs"] 2 spShPp) (F_law_told_of : Fn P w K mg base "_law_told_of" ["texts"] 10 spTold60) (F_law_due_of : Fn P w K mg base "_law_due_of" ["one","other","pairs","way"] 6 spDue) (F_law_bad : Fn P w K mg base "_law_bad" ["pot","texts","at"] 2 spBad) (F_law_take : Fn P w K mg base "_law_take" ["pot","size"] 1 Dr.spTk) : Fn P w K mg base "_law_right" ["pot","one","other","pairs","way"] 11 spRight60 := by
  refine D_law_right.fn S_law_right (fun _ _ _ _ _ _ us hl => by obtain ⟨_,_,_,_,_,rfl⟩ := len5 hl; rfl) (fun vs H Q E h => ?_) (fun f cdv A outer s H vs Q E hr h => ?_)
  · obtain ⟨p,l1,l2,l,qs,rs,ps,wy,k,rfl,_⟩ := h
    rfl
  · obtain ⟨p,l1,l2,l,qs,rs,ps,wy,k,rfl,p0,hk,⟨L1,h1,h10⟩,⟨L2,g1,g10⟩,PP,⟨n1,n101⟩,hw,q⟩ := h
    have ok1 := lineM_ok L1 h1 h10
    have ok2 := lineM_ok L2 g1 g10
    have hwy := way_in hw
    have nm : ∀ q ∈ ps,PrN q := fun q hq => (PP.pr q hq).n
    have ok3 : OkP wWalk wy (ps.map four) := ⟨walk_in,hwy,by rw [List.length_map]; omega,by rw [List.length_map]; omega,fun r hr => by
      obtain ⟨q,hq,rfl⟩ := List.mem_map.mp hr
      exact (nm q hq).ok4.1⟩
    have w5 : wWalk.length ≤ 5 ∧ wy.length ≤ 5 := ⟨by decide,way5' _ hwy⟩
    have zx : (lineT (qs.map (·.2))).length ≤ 280 := by
      have := line_len ok1.2.2
      rw [List.length_map] at this
      omega
    have zy : (lineT (rs.map (·.2))).length ≤ 280 := by
      have := line_len ok2.2.2
      rw [List.length_map] at this
      omega
    have zz : (paperT wWalk wy (ps.map four)).length ≤ 17000 := paper_len2 (fun r hr => by
      obtain ⟨q,hq,rfl⟩ := List.mem_map.mp hr
      exact (nm q hq).len) (by rw [List.length_map]; omega) w5
    have gt : GoodT _ _ _ qs rs ps wy := ⟨rfl,rfl,rfl,ok1,ok2,ok3,nm⟩
    have pos : ∀ q ∈ ps,0 < q.b ∧ 0 < q.d := fun q hq => ⟨(PP.pr q hq).lx.pos,(PP.pr q hq).ly.pos⟩
    generalize ex : lineT (qs.map (·.2)) = x at *
    generalize ey : lineT (rs.map (·.2)) = y at *
    generalize ez : paperT wWalk wy (ps.map four) = z at *
    have R : ∃ u : TS,PSs (cxOf CX0 P w K mg base ["pot","one","other","pairs","way","texts"] "_law_right" (defScope (top 127)) f cdv A outer s H E).nox ((defBody (top 127)).drop 2) u ∧ ∀ (lt : Addr) (H5 : Hp),H5 lt = some (.lst [.str x,.str y,.str z]) → Same H H5 → H lt = none → u { nx := fun _ H' => Q .non H',rt := Q } [some (.ref p),some (.ref l1),some (.ref l2),some (.ref l),some (.str wy),some (.ref lt)] H5 := by
      refine ⟨_,(pss_one (ps_ret (pe_cmpR (op_eqD hr.units10) (pe_fn F_law_told_of (hr.mono (by decide)) (by rfl) (pa_cons (pe_fn F_law_bad (hr.mono (by decide)) (by rfl) (pa_cons (pv 0) (pa_cons (pv 5) (pa_cons (pe_fn F_law_take (hr.mono (by decide)) (by rfl) (pa_cons (pv 0) (pa_cons pe_int pa_nil))) pa_nil)))) pa_nil)) (pe_tupA (pa_cons pe_bl (pa_cons pe_bl (pa_cons pe_bl (pa_cons pe_bl pa_nil))))) (nomark _)))),fun lt H5 f5 s5 n5 => ?_⟩
      have nlt := Pot.ne p0 n5
      refine ⟨_,rfl,_,rfl,_,rfl,p,_,_,rfl,p0.same s5,by omega,⟨by decide,by decide⟩,fun a7 H7 a7' b7' b7 p7 => ?_⟩
      refine ⟨p,lt,x,y,z,a7,_,rfl,p7,by omega,b7 _ _ nlt f5,⟨a7',by omega⟩,nlt,⟨⟨_,ex.symm,ok1⟩,⟨_,ey.symm,ok2⟩,wy,_,ez.symm,hwy⟩,⟨by omega,by omega,zz⟩,fun r x' y' z' H8 f8 hb hl' b8 p8 => ?_⟩
      refine ⟨r,x',y',z',rfl,f8,hl',.inl ⟨hb,fun rr H9 f9 s9 => ?_⟩⟩
      refine ⟨sz (by simp),fun tp H10 s10 f10 n10 => ⟨_,_,tt_rp (s10 _ _ f9),tt_rp f10,?_⟩⟩
      rw [deq_self]
      exact q H10 ((But.of s5).trans (b7.trans (b8.trans (But.of (s9.trans s10))))) ((p8.same (s9.trans s10)).mono (by omega))
    obtain ⟨u,hu,rd⟩ := R
    refine ⟨_,(pss_cons (ps_set (i := 5) S_law_right.nd rfl (Or.inl rfl) (pe_lstA (pa_cons (pe_fn F_law_line_text (hr.mono (by decide)) (by rfl) (pa_cons (pv 1) pa_nil)) (pa_cons (pe_fn F_law_line_text (hr.mono (by decide)) (by rfl) (pa_cons (pv 2) pa_nil)) (pa_cons (pe_fn F_law_paper_text (hr.mono (by decide)) (by rfl) (pa_cons pe_str (pa_cons (pv 4) (pa_cons (pv 3) pa_nil)))) pa_nil))))) (pss_cons (ps_if (pt_cmpR (op_neD hr.units10) (pe_fn F_law_told_of (hr.mono (by decide)) (by rfl) (pa_cons (pv 5) pa_nil)) (pe_fn F_law_due_of (hr.mono (by decide)) (by rfl) (pa_cons (pv 1) (pa_cons (pv 2) (pa_cons (pv 3) (pa_cons (pv 4) pa_nil))))) (nomark _)) (pss_one (ps_ret pe_bl)) pss_nil) hu)),?_⟩
    refine ⟨_,rfl,l1,qs,rfl,L1,by omega,fun H1 s1 => ?_⟩
    refine ⟨_,rfl,l2,rs,rfl,L2.mono s1,by omega,fun H2 s2 => ?_⟩
    have S2 := s1.trans s2
    refine ⟨_,rfl,_,rfl,wWalk,wy,l,asV ps,rfl,pairs_prs (PP.mono S2),by unfold asV; rw [List.length_map]; omega,fun q hq => ?_,w5,fun H3 s3 => ?_⟩
    · obtain ⟨z',hz,rfl⟩ := List.mem_map.mp hq
      exact (nm z' hz).ok4
    have S3 := S2.trans s3
    refine ⟨sz (by simp),fun lt H4 s4 f4 n4 => ?_⟩
    rw [asV_snd,ex,ey,ez] at f4
    have S4 := S3.trans s4
    have nlt : H lt = none := none_of_same S3 n4
    refine ⟨_,rfl,lt,x,y,z,rfl,f4,⟨by omega,by omega,by omega⟩,.inr ⟨qs,rs,ps,wy,gt,fun hf r H5 f5 s5 => ?_,fun ht s' w' H5 mx s5 => ?_⟩⟩
    · have S5 := S4.trans s5
      refine ⟨_,rfl,_,rfl,_,rfl,_,rfl,l1,l2,l,qs,rs,ps,wy,rfl,⟨L1.mono S5,h1,by omega⟩,⟨L2.mono S5,g1,by omega⟩,PP.mono S5,by omega,fun _ r2 H6 f6 s6 => ?_,fun ht => by rw [hf] at ht; cases ht⟩
      refine ⟨_,_,tw_rp (s6 _ _ f5),tw_rp f6,_,rfl,iteFalse (by rw [deq_self]; rfl) ?_⟩
      exact rd lt H6 (s6 _ _ (s5 _ _ f4)) (S5.trans s6) nlt
    · have S5 := S4.trans s5
      refine ⟨_,rfl,_,rfl,_,rfl,_,rfl,l1,l2,l,qs,rs,ps,wy,rfl,⟨L1.mono S5,h1,by omega⟩,⟨L2.mono S5,g1,by omega⟩,PP.mono S5,by omega,fun hf => (by rw [ht] at hf; cases hf),fun _ s2' w2' H6 mx2 s6 => ?_⟩
      obtain ⟨rfl,rfl⟩ := mx.uniq pos mx2
      refine ⟨_,_,.str,.str,_,rfl,iteFalse (by rw [deq_self]; rfl) ?_⟩
      exact rd lt H6 (s6 _ _ (s5 _ _ f4)) (S5.trans s6) nlt
theorem S_law : FnScope ["script","one","other","n","m","cell","pot","way","pairs","made"] ["script"] (defScope (top 128)) := ⟨rfl,rfl,rfl,by decide +kernel,rfl,by decide +kernel,by decide +kernel⟩
theorem fn_law (D_law : Df K mg "law" (top 128)) (F_law_lines : Fn P w K mg base "_law_lines" ["script"] 5 (spLines K)) (F_law_folded : Fn P w K mg base "_law_folded" ["cells","many"] 1 spFolded) (F_law_begun : Fn P w K mg base "_law_begun" ["cell"] 1 Dr.spBegun) (F_law_drawn_way : Fn P w K mg base "_law_drawn_way" ["pot"] 2 spDWay) (F_law_drawn_walk : Fn P w K mg base "_law_drawn_walk" ["pot","n","m","way"] 5 spDWalk) (F_law_right : Fn P w K mg base "_law_right" ["pot","one","other","pairs","way"] 11 spRight60) (F_law_spoilt : Fn P w K mg base "_law_spoilt" ["pot","pairs","n","m"] 5 spSpoilt) (T : Txt mg) : Fn P w K mg base "law" ["script"] 12 (spLaw K) := by
  refine D_law.fn S_law (fun _ _ _ _ _ _ us hl => by obtain ⟨_,rfl⟩ := len1 hl; rfl) (fun vs H Q E h => ?_) (fun f cdv A outer s H vs Q E hr h => ?_)
  · obtain ⟨sa,ss,rfl,_⟩ := h
    rfl
  · obtain ⟨sa,ss,rfl,hS,hlen,fin⟩ := h
    refine ⟨_,(pss_cons (ps_asg (pe_fn F_law_lines (hr.mono (by decide)) (by rfl) (pa_cons (pv 0) pa_nil)) (pg_tup rfl (pgs_cons (pg_name (i := 1) S_law.nd rfl (Or.inl rfl)) (pgs_cons (pg_name (i := 2) S_law.nd rfl (Or.inl rfl)) pgs_nil)))) (pss_cons (ps_set (i := 3) S_law.nd rfl (Or.inl rfl) (pe_op op_sub (pe_callB call_len_seq (by rfl) T.z_len bt_len (pa_cons (pv 1) pa_nil)) pe_int)) (pss_cons (ps_set (i := 4) S_law.nd rfl (Or.inl rfl) (pe_op op_sub (pe_callB call_len_seq (by rfl) T.z_len bt_len (pa_cons (pv 2) pa_nil)) pe_int)) (pss_cons (ps_for PassesOwn.never rfl (pi_list (pe_fn F_law_folded (hr.mono (by decide)) (by rfl) (pa_cons (pe_slice sl_listA (pv 0) (po_some pe_int) po_none) (pa_cons pe_int pa_nil)))) (pg_name (i := 5) S_law.nd rfl (Or.inl rfl)) (pss_cons (ps_set (i := 6) S_law.nd rfl (Or.inl rfl) (pe_fn F_law_begun (hr.mono (by decide)) (by rfl) (pa_cons (pv 5) pa_nil))) (pss_cons (ps_set (i := 7) S_law.nd rfl (Or.inl rfl) (pe_fn F_law_drawn_way (hr.mono (by decide)) (by rfl) (pa_cons (pv 6) pa_nil))) (pss_cons (ps_set (i := 8) S_law.nd rfl (Or.inl rfl) (pe_fn F_law_drawn_walk (hr.mono (by decide)) (by rfl) (pa_cons (pv 6) (pa_cons (pv 3) (pa_cons (pv 4) (pa_cons (pv 7) pa_nil)))))) (pss_cons (ps_if (pt_not (pt_val (pe_fn F_law_right (hr.mono (by decide)) (by rfl) (pa_cons (pv 6) (pa_cons (pv 1) (pa_cons (pv 2) (pa_cons (pv 8) (pa_cons (pv 7) pa_nil)))))))) (pss_one (ps_ret pe_bl)) pss_nil) (pss_cons (ps_if (pt_not (pt_val (pe_fn F_law_right (hr.mono (by decide)) (by rfl) (pa_cons (pv 6) (pa_cons (pv 1) (pa_cons (pv 2) (pa_cons (pv 8) (pa_cons (pe_fn F_law_drawn_way (hr.mono (by decide)) (by rfl) (pa_cons (pv 6) pa_nil)) pa_nil)))))))) (pss_one (ps_ret pe_bl)) pss_nil) (pss_cons (ps_set (i := 9) S_law.nd rfl (Or.inl rfl) (pe_fn F_law_spoilt (hr.mono (by decide)) (by rfl) (pa_cons (pv 6) (pa_cons (pv 8) (pa_cons (pv 3) (pa_cons (pv 4) pa_nil)))))) (pss_one (ps_if (pw_and (pt_cmpR (op_neD hr.units10) (pv 9) (pe_lstA pa_nil) (nomark _)) (pw_and1 (pt_not (pt_val (pe_fn F_law_right (hr.mono (by decide)) (by rfl) (pa_cons (pv 6) (pa_cons (pv 1) (pa_cons (pv 2) (pa_cons (pv 9) (pa_cons (pv 7) pa_nil)))))))))).pt (pss_one (ps_ret pe_bl)) pss_nil))))))))) (pss_one (ps_ret pe_bl)))))),?_⟩
    refine ⟨_,rfl,sa,ss,rfl,hS,fun t l r qs rs H1 s1 et L1 ⟨h1,h10⟩ R1 ⟨g1,g10⟩ _ _ _ => ?_⟩
    have hql : (qs.map fun (q : Addr × Int × Int) => V.ref q.1).length = qs.length := List.length_map _
    have hrl : (rs.map fun (q : Addr × Int × Int) => V.ref q.1).length = rs.length := List.length_map _
    refine ⟨t,_,rfl,SqT.of et,rfl,_,_,rfl,_,_,rfl,rfl,?_⟩
    refine ⟨_,rfl,l,_,rfl,.inl (SqL.of L1.lst),_,_,rfl,rfl,?_⟩
    refine ⟨_,rfl,r,_,rfl,.inl (SqL.of R1.lst),_,_,rfl,rfl,?_⟩
    have N0 : 0 ≤ (((qs.map fun (q : Addr × Int × Int) => V.ref q.1).length : Nat) : Int) - 1 := by omega
    have N1 : (((qs.map fun (q : Addr × Int × Int) => V.ref q.1).length : Nat) : Int) - 1 ≤ 20 := by omega
    have M0 : 0 ≤ (((rs.map fun (q : Addr × Int × Int) => V.ref q.1).length : Nat) : Int) - 1 := by omega
    have M1 : (((rs.map fun (q : Addr × Int × Int) => V.ref q.1).length : Nat) : Int) - 1 ≤ 20 := by omega
    generalize eN : (((qs.map fun (q : Addr × Int × Int) => V.ref q.1).length : Nat) : Int) - 1 = N at *
    generalize eM : (((rs.map fun (q : Addr × Int × Int) => V.ref q.1).length : Nat) : Int) - 1 = M at *
    refine ⟨_,rfl,_,rfl,sa,_,rfl,s1.seq hS,fun c H2 s2 f2 n2 => ?_⟩
    rw [show (2 : Int) = ((2 : Nat) : Int) from rfl,cut_from] at f2
    refine ⟨c,_,rfl,f2,by rw [List.length_drop]; omega,fun fo zs H3 e3 s3 => ?_⟩
    have L3 := (L1.mono s2).mono s3
    have R3 := (R1.mono s2).mono s3
    refine ⟨fo,rfl,⟨_,SqL.of e3⟩,for_list (K := K) (a := fo) (xs := zs.map V.int) (fun i σ H4 => ∃ z5 z6 z7 z8 z9,σ = [some (.ref sa),some (.ref l),some (.ref r),some (.int N),some (.int M),z5,z6,z7,z8,z9] ∧ Same H3 H4)
      ⟨none,none,none,none,none,by rw [← eN,← eM]; rfl,Same.refl _⟩ (fun i σ H4 _ ⟨_,_,_,_,_,_,s4⟩ => SqL.of (s4 _ _ e3)) ?_ ?_⟩
    · rintro i x σ H4 hx ⟨z5,z6,z7,z8,z9,rfl,s4⟩
      rw [List.getElem?_map] at hx
      obtain ⟨cc,_,rfl⟩ := Option.map_eq_some_iff.mp hx
      have L4 := L3.mono s4
      have R4 := R3.mono s4
      refine ⟨_,rfl,cc,rfl,fun p H5 s5 n5 p5 => ?_⟩
      refine ⟨_,rfl,p,_,rfl,p5,by decide,fun wy H6 hw b6 p6 => ?_⟩
      refine ⟨_,rfl,_,rfl,_,rfl,_,rfl,p,N,M,_,wy,rfl,p6,by omega,⟨N0,N1⟩,⟨M0,M1⟩,fun l7 ps H7 P7 g7 h7 n7 b7 p7 => ?_⟩
      have nl7 : l7 ≠ p := Pot.ne p6 n7
      have B7 : But p H5 H7 := b6.trans b7
      have hn7 : 1 ≤ ps.length := by
        cases ps with
        | nil => exact absurd g7.walk (by simp [walkB])
        | cons a b => simp
      have Ln : ∀ {H' : Hp},But p H5 H' → LineM H' l qs ∧ 1 ≤ qs.length ∧ qs.length ≤ 10 := fun b => ⟨L4.mono (b.same s5 n5),h1,h10⟩
      have Rn : ∀ {H' : Hp},But p H5 H' → LineM H' r rs ∧ 1 ≤ rs.length ∧ rs.length ≤ 10 := fun b => ⟨R4.mono (b.same s5 n5),g1,g10⟩
      refine ⟨_,rfl,_,rfl,_,rfl,_,rfl,_,rfl,p,l,r,l7,qs,rs,ps,wy,_,rfl,p7,by omega,Ln B7,Rn B7,P7,⟨hn7,by omega⟩,hw,fun H8 b8 p8 => ⟨_,rfl,iteFalse (by decide) ?_⟩⟩
      have B8 := B7.trans b8
      have P8 := pairs_but P7 b8 p7 nl7
      refine ⟨_,rfl,_,rfl,_,rfl,_,rfl,_,rfl,p,_,rfl,p8,by omega,fun wy2 H9 hw2 b9 p9 => ?_⟩
      have B9 := B8.trans b9
      have P9 := pairs_but P8 b9 p8 nl7
      refine ⟨p,l,r,l7,qs,rs,ps,wy2,_,rfl,p9,by omega,Ln B9,Rn B9,P9,⟨hn7,by omega⟩,hw2,fun H10 b10 p10 => ⟨_,rfl,iteFalse (by decide) ?_⟩⟩
      have B10 := B9.trans b10
      have P10 := pairs_but P9 b10 p9 nl7
      refine ⟨_,rfl,_,rfl,_,rfl,_,rfl,p,l7,N,M,_,ps,rfl,p10,by omega,P10,⟨hn7,by omega⟩,⟨N0,N1⟩,⟨M0,M1⟩,fun sp rs9 H11 P11 h11 n11 b11 p11 => ?_⟩
      have B11 := B10.trans b11
      refine ⟨_,rfl,sz (by simp),fun l0 H12 s12 f12 n12 => ⟨_,_,prs_rp (P11.mono s12),Rp.l0 f12,_,rfl,?_⟩⟩
      have B12 := B11.trans (But.of s12)
      cases rs9 with
      | nil =>
        refine iteFalse (by decide) (iteFalse (by decide) ?_)
        exact ⟨_,_,_,_,_,rfl,s4.trans (B12.same s5 n5)⟩
      | cons fa ra =>
        refine iteTrue (by rfl) ?_
        refine ⟨_,rfl,_,rfl,_,rfl,_,rfl,_,rfl,p,l,r,sp,qs,rs,fa :: ra,wy,_,rfl,p11.same s12,by omega,Ln B12,Rn B12,P11.mono s12,⟨by simp,h11⟩,hw,fun H13 b13 p13 => ⟨_,rfl,iteFalse (by decide) ?_⟩⟩
        exact ⟨_,_,_,_,_,rfl,s4.trans ((B12.trans b13).same s5 n5)⟩
    · rintro σ H4 ⟨z5,z6,z7,z8,z9,rfl,s4⟩
      exact fin _
end
theorem hLeft : PySem.W.LeftO PySem.Challenge.rw_oneleash_k60_walks_judged.prog hView hLoose (fun _ => true) (PySem.W.Hook.obs (Hd.hook hFacts hGood)) (PySem.W.Hook.val (Hd.hook hFacts hGood)) 100000 := hAll
theorem all_of {P : Program} {w : World} {K : PySem.W.Frag} (FK : hFacts K = hGood) {h : Heap} {mg : Str → Option Value} {fa : Addr} (X : K.In h) (G : h.Ns mainGlobals mg) (hfa : mg "law" = some (.ref fa)) :
    ∃ fd : FuncData,(∀ (s : Shared) (v : Value),BindsTo s fd ⟨[v],[]⟩ [("script",v)]) ∧ ∀ base : Heap,K.In base → base.Ns mainGlobals mg → FnOk P w K mg base CX0 12 fa fd ["script"] (spLaw K) := by
  have H0 : (hNames0.map (fun p => Hd.fnFact K p.1) : List (Option (Arguments × List Stmt × Scope × Value))) = hNames0.map (fun p => some (defArgs (top p.2),defBody (top p.2),defScope (top p.2),.none)) := (congrArg Prod.fst FK)
  have H1 : (hNames1.map (fun p => Hd.fnFact K p.1) : List (Option (Arguments × List Stmt × Scope × Value))) = hNames1.map (fun p => some (defArgs (top p.2),defBody (top p.2),defScope (top p.2),.none)) := (congrArg Prod.fst (congrArg Prod.snd FK))
  have H2 : (hNames2.map (fun p => Hd.fnFact K p.1) : List (Option (Arguments × List Stmt × Scope × Value))) = hNames2.map (fun p => some (defArgs (top p.2),defBody (top p.2),defScope (top p.2),.none)) := (congrArg Prod.fst (congrArg Prod.snd (congrArg Prod.snd FK)))
  have H3 : (hNamesD.map (fun p => Hd.fnFactD K p.1) : List (Option (Arguments × List Stmt × Scope × List V))) = hNamesD.map (fun p => some (defArgs (top p.2.1),defBody (top p.2.1),defScope (top p.2.1),p.2.2)) := (congrArg Prod.fst (congrArg Prod.snd (congrArg Prod.snd (congrArg Prod.snd FK))))
  have H4 : (hExc.all (Hd.excFact K) : Bool) = true := (congrArg Prod.fst (congrArg Prod.snd (congrArg Prod.snd (congrArg Prod.snd (congrArg Prod.snd FK)))))
  have H5 : (hNo.all (Hd.noFact K) : Bool) = true := (congrArg Prod.fst (congrArg Prod.snd (congrArg Prod.snd (congrArg Prod.snd (congrArg Prod.snd (congrArg Prod.snd FK))))))
  have H6 : (hTup.map (fun p => Hd.tupFact K p.1) : List (Option (List V))) = hTup.map (fun p => some p.2) := (congrArg Prod.fst (congrArg Prod.snd (congrArg Prod.snd (congrArg Prod.snd (congrArg Prod.snd (congrArg Prod.snd (congrArg Prod.snd FK)))))))
  have H7 : (hNamesA.map (fun p => Hd.fnFactA K p.1 p.2.1) : List (Option (Arguments × List Stmt × Scope × Value))) = hNamesA.map (fun p => some (defArgs (top p.2.2),defBody (top p.2.2),defScope (top p.2.2),.none)) := (congrArg Prod.fst (congrArg Prod.snd (congrArg Prod.snd (congrArg Prod.snd (congrArg Prod.snd (congrArg Prod.snd (congrArg Prod.snd (congrArg Prod.snd FK))))))))
  have H8 : (hEq0 K : List (Option (Option Value))) = hVal0 := (congrArg Prod.fst (congrArg Prod.snd (congrArg Prod.snd (congrArg Prod.snd (congrArg Prod.snd (congrArg Prod.snd (congrArg Prod.snd (congrArg Prod.snd (congrArg Prod.snd FK)))))))))
  have H9 : (hEq1 K : List (Option (Option V))) = hVal1 := (congrArg Prod.fst (congrArg Prod.snd (congrArg Prod.snd (congrArg Prod.snd (congrArg Prod.snd (congrArg Prod.snd (congrArg Prod.snd (congrArg Prod.snd (congrArg Prod.snd (congrArg Prod.snd FK))))))))))
  have H10 : (hEq2 K : List (Option Bool)) = hVal2 := (congrArg Prod.snd (congrArg Prod.snd (congrArg Prod.snd (congrArg Prod.snd (congrArg Prod.snd (congrArg Prod.snd (congrArg Prod.snd (congrArg Prod.snd (congrArg Prod.snd (congrArg Prod.snd FK))))))))))
  have D_is_whole : Df K mg "is_whole" (top 10) := Hd.df_of X G (Hd.at_map H0 0 rfl)
  have D_common_divisor : Df K mg "common_divisor" (top 11) := Hd.df_of X G (Hd.at_map H0 1 rfl)
  have D_plus : Df K mg "plus" (top 13) := Hd.df_of X G (Hd.at_map H0 2 rfl)
  have D_minus : Df K mg "minus" (top 14) := Hd.df_of X G (Hd.at_map H0 3 rfl)
  have D_times : Df K mg "times" (top 15) := Hd.df_of X G (Hd.at_map H0 4 rfl)
  have D_less : Df K mg "less" (top 17) := Hd.df_of X G (Hd.at_map H0 5 rfl)
  have D_floor_of : Df K mg "floor_of" (top 18) := Hd.df_of X G (Hd.at_map H0 6 rfl)
  have D_number_of_least : Df K mg "number_of_least" (top 19) := Hd.df_of X G (Hd.at_map H0 7 rfl)
  have D_number_of_greatest : Df K mg "number_of_greatest" (top 20) := Hd.df_of X G (Hd.at_map H0 8 rfl)
  have D_is_ratio : Df K mg "is_ratio" (top 21) := Hd.df_of X G (Hd.at_map H0 9 rfl)
  have D_is_small : Df K mg "is_small" (top 25) := Hd.df_of X G (Hd.at_map H0 10 rfl)
  have D_is_corner : Df K mg "is_corner" (top 26) := Hd.df_of X G (Hd.at_map H0 11 rfl)
  have D_is_line : Df K mg "is_line" (top 27) := Hd.df_of X G (Hd.at_map H0 12 rfl)
  have D_last_of : Df K mg "last_of" (top 28) := Hd.df_of X G (Hd.at_map H0 13 rfl)
  have D_is_place : Df K mg "is_place" (top 30) := Hd.df_of X G (Hd.at_map H0 14 rfl)
  have D_look_at_place : Df K mg "look_at_place" (top 31) := Hd.df_of X G (Hd.at_map H0 15 rfl)
  have D_is_pair : Df K mg "is_pair" (top 32) := Hd.df_of X G (Hd.at_map H0 16 rfl)
  have D_are_pairs : Df K mg "are_pairs" (top 33) := Hd.df_of X G (Hd.at_map H0 17 rfl)
  have D_number_at : Df K mg "number_at" (top 34) := Hd.df_of X G (Hd.at_map H0 18 rfl)
  have D_point_at : Df K mg "point_at" (top 35) := Hd.df_of X G (Hd.at_map H0 19 rfl)
  have D_share_a_stretch : Df K mg "share_a_stretch" (top 36) := Hd.df_of X G (Hd.at_map H0 20 rfl)
  have D_step_from : Df K mg "step_from" (top 37) := Hd.df_of X G (Hd.at_map H0 21 rfl)
  have D_inner_product : Df K mg "inner_product" (top 38) := Hd.df_of X G (Hd.at_map H0 22 rfl)
  have D_square_between : Df K mg "square_between" (top 39) := Hd.df_of X G (Hd.at_map H0 23 rfl)
  have D_square_of : Df K mg "square_of" (top 40) := Hd.df_of X G (Hd.at_map H0 24 rfl)
  have D_look_at_way : Df K mg "look_at_way" (top 45) := Hd.df_of X G (Hd.at_map H1 0 rfl)
  have D_show_ratio : Df K mg "show_ratio" (top 69) := Hd.df_of X G (Hd.at_map H1 1 rfl)
  have D_read_whole : Df K mg "read_whole" (top 70) := Hd.df_of X G (Hd.at_map H1 2 rfl)
  have D_read_ratio : Df K mg "read_ratio" (top 71) := Hd.df_of X G (Hd.at_map H1 3 rfl)
  have D_two_parts : Df K mg "two_parts" (top 72) := Hd.df_of X G (Hd.at_map H1 4 rfl)
  have D_read_corner : Df K mg "read_corner" (top 73) := Hd.df_of X G (Hd.at_map H1 5 rfl)
  have D_read_line : Df K mg "read_line" (top 74) := Hd.df_of X G (Hd.at_map H1 6 rfl)
  have D_read_pair : Df K mg "read_pair" (top 75) := Hd.df_of X G (Hd.at_map H1 7 rfl)
  have D_read_paper : Df K mg "read_paper" (top 76) := Hd.df_of X G (Hd.at_map H1 8 rfl)
  have D_goes_on : Df K mg "goes_on" (top 80) := Hd.df_of X G (Hd.at_map H1 9 rfl)
  have D_goes_freely : Df K mg "goes_freely" (top 81) := Hd.df_of X G (Hd.at_map H1 10 rfl)
  have D_hops : Df K mg "hops" (top 82) := Hd.df_of X G (Hd.at_map H1 11 rfl)
  have D_judged : Df K mg "judged" (top 90) := Hd.df_of X G (Hd.at_map H1 12 rfl)
  have D_law_cell_at : Df K mg "_law_cell_at" (top 92) := Hd.df_of X G (Hd.at_map H1 13 rfl)
  have D_law_folded : Df K mg "_law_folded" (top 93) := Hd.df_of X G (Hd.at_map H1 14 rfl)
  have D_law_begun : Df K mg "_law_begun" (top 94) := Hd.df_of X G (Hd.at_map H1 15 rfl)
  have D_law_take : Df K mg "_law_take" (top 95) := Hd.df_of X G (Hd.at_map H1 16 rfl)
  have D_law_wide : Df K mg "_law_wide" (top 96) := Hd.df_of X G (Hd.at_map H1 17 rfl)
  have D_law_drawn_line : Df K mg "_law_drawn_line" (top 97) := Hd.df_of X G (Hd.at_map H1 18 rfl)
  have D_law_moved : Df K mg "_law_moved" (top 98) := Hd.df_of X G (Hd.at_map H1 19 rfl)
  have D_law_drawn_other : Df K mg "_law_drawn_other" (top 99) := Hd.df_of X G (Hd.at_map H1 20 rfl)
  have D_law_lines : Df K mg "_law_lines" (top 100) := Hd.df_of X G (Hd.at_map H1 21 rfl)
  have D_law_divisor : Df K mg "_law_divisor" (top 101) := Hd.df_of X G (Hd.at_map H1 22 rfl)
  have D_law_ratio : Df K mg "_law_ratio" (top 102) := Hd.df_of X G (Hd.at_map H1 23 rfl)
  have D_law_below : Df K mg "_law_below" (top 103) := Hd.df_of X G (Hd.at_map H1 24 rfl)
  have D_law_whole : Df K mg "_law_whole" (top 104) := Hd.df_of X G (Hd.at_map H2 0 rfl)
  have D_law_is_ratio : Df K mg "_law_is_ratio" (top 105) := Hd.df_of X G (Hd.at_map H2 1 rfl)
  have D_law_is_place : Df K mg "_law_is_place" (top 106) := Hd.df_of X G (Hd.at_map H2 2 rfl)
  have D_law_near : Df K mg "_law_near" (top 107) := Hd.df_of X G (Hd.at_map H2 3 rfl)
  have D_law_are_pairs : Df K mg "_law_are_pairs" (top 108) := Hd.df_of X G (Hd.at_map H2 4 rfl)
  have D_law_goes : Df K mg "_law_goes" (top 109) := Hd.df_of X G (Hd.at_map H2 5 rfl)
  have D_law_is_walk : Df K mg "_law_is_walk" (top 110) := Hd.df_of X G (Hd.at_map H2 6 rfl)
  have D_law_point_at : Df K mg "_law_point_at" (top 111) := Hd.df_of X G (Hd.at_map H2 7 rfl)
  have D_law_square_of : Df K mg "_law_square_of" (top 112) := Hd.df_of X G (Hd.at_map H2 8 rfl)
  have D_law_walk_square : Df K mg "_law_walk_square" (top 113) := Hd.df_of X G (Hd.at_map H2 9 rfl)
  have D_law_spot_on : Df K mg "_law_spot_on" (top 114) := Hd.df_of X G (Hd.at_map H2 10 rfl)
  have D_law_any : Df K mg "_law_any" (top 115) := Hd.df_of X G (Hd.at_map H2 11 rfl)
  have D_law_ahead : Df K mg "_law_ahead" (top 116) := Hd.df_of X G (Hd.at_map H2 12 rfl)
  have D_law_home : Df K mg "_law_home" (top 117) := Hd.df_of X G (Hd.at_map H2 13 rfl)
  have D_law_drawn_walk : Df K mg "_law_drawn_walk" (top 118) := Hd.df_of X G (Hd.at_map H2 14 rfl)
  have D_law_spoilt : Df K mg "_law_spoilt" (top 119) := Hd.df_of X G (Hd.at_map H2 15 rfl)
  have D_law_drawn_way : Df K mg "_law_drawn_way" (top 120) := Hd.df_of X G (Hd.at_map H2 16 rfl)
  have D_law_shown : Df K mg "_law_shown" (top 121) := Hd.df_of X G (Hd.at_map H2 17 rfl)
  have D_law_line_text : Df K mg "_law_line_text" (top 122) := Hd.df_of X G (Hd.at_map H2 18 rfl)
  have D_law_paper_text : Df K mg "_law_paper_text" (top 123) := Hd.df_of X G (Hd.at_map H2 19 rfl)
  have D_law_bad : Df K mg "_law_bad" (top 124) := Hd.df_of X G (Hd.at_map H2 20 rfl)
  have D_law_told_of : Df K mg "_law_told_of" (top 125) := Hd.df_of X G (Hd.at_map H2 21 rfl)
  have D_law_due_of : Df K mg "_law_due_of" (top 126) := Hd.df_of X G (Hd.at_map H2 22 rfl)
  have D_law_right : Df K mg "_law_right" (top 127) := Hd.df_of X G (Hd.at_map H2 23 rfl)
  have D_law : Df K mg "law" (top 128) := Hd.df_of X G (Hd.at_map H2 24 rfl)
  have D_has_right_ends_walks : DfA K mg "has_right_ends_walks" "has_right_ends" (top 78) := Hd.dfa_of X G (Hd.at_map H7 0 rfl)
  have D_may_step_walks : DfA K mg "may_step_walks" "may_step" (top 83) := Hd.dfa_of X G (Hd.at_map H7 1 rfl)
  have D_has_right_steps_walks : DfA K mg "has_right_steps_walks" "has_right_steps" (top 85) := Hd.dfa_of X G (Hd.at_map H7 2 rfl)
  have D_ratio : DfD K mg "ratio" (top 12) [.int 1] := Hd.dfd_of X G (Hd.at_map H3 0 rfl)
  have D_fence_square : DfD K mg "fence_square" (top 63) [.str "on"] := Hd.dfd_of X G (Hd.at_map H3 1 rfl)
  have D_is_walk : DfD K mg "is_walk" (top 87) [.str "on"] := Hd.dfd_of X G (Hd.at_map H3 2 rfl)
  have D_walk_square : DfD K mg "walk_square" (top 88) [.str "on"] := Hd.dfd_of X G (Hd.at_map H3 3 rfl)
  have O_NoRatio : ExcC K mg "NoRatio" (Hd.cls K "NoRatio") := Hd.exc_of X G (Hd.at_all H4 0 rfl)
  have O_NoWay : ExcC K mg "NoWay" (Hd.cls K "NoWay") := Hd.exc_of X G (Hd.at_all H4 1 rfl)
  have O_NoWalk : ExcC K mg "NoWalk" (Hd.cls K "NoWalk") := Hd.exc_of X G (Hd.at_all H4 2 rfl)
  have O_LeashError : ExcC K mg "LeashError" (Hd.cls K "LeashError") := Hd.exc_of X G (Hd.at_all H4 3 rfl)
  have O_NoFence : ExcC K mg "NoFence" (Hd.cls K "NoFence") := Hd.exc_of X G (Hd.at_all H4 4 rfl)
  have O_NoLine : ExcC K mg "NoLine" (Hd.cls K "NoLine") := Hd.exc_of X G (Hd.at_all H4 5 rfl)
  have O_NoPlace : ExcC K mg "NoPlace" (Hd.cls K "NoPlace") := Hd.exc_of X G (Hd.at_all H4 6 rfl)
  have O_NoText : ExcC K mg "NoText" (Hd.cls K "NoText") := Hd.exc_of X G (Hd.at_all H4 7 rfl)
  have T : Txt mg := ⟨PySem.W.mg_none_of X G (Hd.no_of (Hd.at_all H5 0 rfl)),PySem.W.mg_none_of X G (Hd.no_of (Hd.at_all H5 1 rfl)),PySem.W.mg_none_of X G (Hd.no_of (Hd.at_all H5 2 rfl)),PySem.W.mg_none_of X G (Hd.no_of (Hd.at_all H5 3 rfl)),PySem.W.mg_none_of X G (Hd.no_of (Hd.at_all H5 4 rfl)),PySem.W.mg_none_of X G (Hd.no_of (Hd.at_all H5 5 rfl)),PySem.W.mg_none_of X G (Hd.no_of (Hd.at_all H5 6 rfl)),PySem.W.mg_none_of X G (Hd.no_of (Hd.at_all H5 7 rfl)),PySem.W.mg_none_of X G (Hd.no_of (Hd.at_all H5 8 rfl)),PySem.W.mg_none_of X G (Hd.no_of (Hd.at_all H5 9 rfl)),PySem.W.mg_none_of X G (Hd.no_of (Hd.at_all H5 10 rfl)),PySem.W.mg_none_of X G (Hd.no_of (Hd.at_all H5 11 rfl)),PySem.W.mg_none_of X G (Hd.no_of (Hd.at_all H5 12 rfl)),PySem.W.mg_none_of X G (Hd.no_of (Hd.at_all H5 13 rfl)),PySem.W.mg_none_of X G (Hd.no_of (Hd.at_all H5 14 rfl)),PySem.W.mg_none_of X G (Hd.no_of (Hd.at_all H5 15 rfl))⟩
  obtain ⟨p_WAYS,od_WAYS,its_WAYS,n_WAYS,sl_WAYS,v_WAYS,w_WAYS,u_WAYS⟩ := Hd.tup_of (Hd.at_map H6 0 rfl)
  obtain ⟨p_PAPERS,od_PAPERS,its_PAPERS,n_PAPERS,sl_PAPERS,v_PAPERS,w_PAPERS,u_PAPERS⟩ := Hd.tup_of (Hd.at_map H6 1 rfl)
  have DG : PySem.W.nsIn K cStatics "sys.int_max_str_digits" = some none := Hd.at_two H8 0 rfl rfl
  have fa_NoText : PySem.W.findIn K (.ref (Hd.cls K "NoText")) "__getattribute__" = some (some (.builtin "BaseException.__getattribute__")) := Hd.at_two H8 1 rfl rfl
  have fb_NoText : PySem.W.findIn K (.ref (Hd.cls K "NoText")) "__getattr__" = some none := Hd.at_two H8 2 rfl rfl
  have fc_NoText : PySem.W.findIn K (.ref (Hd.cls K "NoText")) "__class__" = some (some (.builtin "object.__class__")) := Hd.at_two H8 3 rfl rfl
  have fa_NoWalk : PySem.W.findIn K (.ref (Hd.cls K "NoWalk")) "__getattribute__" = some (some (.builtin "BaseException.__getattribute__")) := Hd.at_two H8 4 rfl rfl
  have fb_NoWalk : PySem.W.findIn K (.ref (Hd.cls K "NoWalk")) "__getattr__" = some none := Hd.at_two H8 5 rfl rfl
  have fc_NoWalk : PySem.W.findIn K (.ref (Hd.cls K "NoWalk")) "__class__" = some (some (.builtin "object.__class__")) := Hd.at_two H8 6 rfl rfl
  have c_FIGURES : (PySem.W.nsIn K mainGlobals "FIGURES").map (fun o => o.map Hd.bareV) = some (some (.str (Str.ofString "0123456789"))) := Hd.at_two H9 0 rfl rfl
  have c_MOST_FIGURES : (PySem.W.nsIn K mainGlobals "MOST_FIGURES").map (fun o => o.map Hd.bareV) = some (some (.int 1000)) := Hd.at_two H9 1 rfl rfl
  have c_MOST_PAIRS : (PySem.W.nsIn K mainGlobals "MOST_PAIRS").map (fun o => o.map Hd.bareV) = some (some (.int 200)) := Hd.at_two H9 2 rfl rfl
  have c_MOST_CORNERS : (PySem.W.nsIn K mainGlobals "MOST_CORNERS").map (fun o => o.map Hd.bareV) = some (some (.int 10)) := Hd.at_two H9 3 rfl rfl
  have c_LARGEST : (PySem.W.nsIn K mainGlobals "LARGEST").map (fun o => o.map Hd.bareV) = some (some (.int 999999999999)) := Hd.at_two H9 4 rfl rfl
  have m_NoText : PySem.W.exmOne K (.ref (Hd.cls K "NoText")) (.ref (Hd.cls K "LeashError")) = some true := Hd.at_two H10 0 rfl rfl
  have it_NoText : PySem.W.kitOne K (.ref (Hd.cls K "NoText")) (.ref (Hd.cls K "NoText")) = some true := Hd.at_two H10 1 rfl rfl
  have iw_NoText : PySem.W.kitOne K (.ref (Hd.cls K "NoText")) (.ref (Hd.cls K "NoWalk")) = some false := Hd.at_two H10 2 rfl rfl
  have if_NoText : PySem.W.kitOne K (.ref (Hd.cls K "NoText")) (.ref (Hd.cls K "NoFence")) = some false := Hd.at_two H10 3 rfl rfl
  have iv_NoText : PySem.W.kitOne K (.ref (Hd.cls K "NoText")) (.type "ValueError") = some true := Hd.at_two H10 4 rfl rfl
  have i2_NoText : PySem.W.kitAny K (.ref (Hd.cls K "NoText")) [(.ref (Hd.cls K "NoLine")),(.ref (Hd.cls K "NoPlace")),(.ref (Hd.cls K "NoWay"))] = some false := Hd.at_two H10 5 rfl rfl
  have m_NoWalk : PySem.W.exmOne K (.ref (Hd.cls K "NoWalk")) (.ref (Hd.cls K "LeashError")) = some true := Hd.at_two H10 6 rfl rfl
  have it_NoWalk : PySem.W.kitOne K (.ref (Hd.cls K "NoWalk")) (.ref (Hd.cls K "NoText")) = some false := Hd.at_two H10 7 rfl rfl
  have iw_NoWalk : PySem.W.kitOne K (.ref (Hd.cls K "NoWalk")) (.ref (Hd.cls K "NoWalk")) = some true := Hd.at_two H10 8 rfl rfl
  have if_NoWalk : PySem.W.kitOne K (.ref (Hd.cls K "NoWalk")) (.ref (Hd.cls K "NoFence")) = some false := Hd.at_two H10 9 rfl rfl
  have iv_NoWalk : PySem.W.kitOne K (.ref (Hd.cls K "NoWalk")) (.type "ValueError") = some true := Hd.at_two H10 10 rfl rfl
  have i2_NoWalk : PySem.W.kitAny K (.ref (Hd.cls K "NoWalk")) [(.ref (Hd.cls K "NoLine")),(.ref (Hd.cls K "NoPlace")),(.ref (Hd.cls K "NoWay"))] = some false := Hd.at_two H10 11 rfl rfl
  refine law_fd h hfa fun base => ?_
  have hW : ∀ H,SqT K H p_WAYS [.str wOn,.str wPart,.str wFree,.str wHops] := fun H => SqT.mod w_WAYS rfl (Hd.vals_sz u_WAYS (by decide)) u_WAYS
  have hP : ∀ H,SqT K H p_PAPERS (wordsL.map V.str) := fun H => SqT.mod w_PAPERS rfl (Hd.vals_sz u_PAPERS (by decide)) u_PAPERS
  have F_is_whole := fn_is_whole (P := P) (w := w) (base := base) D_is_whole T
  have F_common_divisor := fn_common_divisor (P := P) (w := w) (base := base) D_common_divisor T
  have F_ratio := fn_ratio (P := P) (w := w) (base := base) D_ratio O_NoRatio F_is_whole F_common_divisor
  have F_floor_of := fn_floor_of (P := P) (w := w) (base := base) D_floor_of
  have F_is_ratio := fn_is_ratio (P := P) (w := w) (base := base) D_is_ratio F_is_whole F_common_divisor T
  have F_last_of := fn_last_of (P := P) (w := w) (base := base) D_last_of T
  have F_is_place := fn_is_place (P := P) (w := w) (base := base) D_is_place F_is_ratio F_last_of
  have F_look_at_place := fn_look_at_place (P := P) (w := w) (base := base) D_look_at_place O_NoPlace F_is_place
  have F_plus := fn_plus (P := P) (w := w) (base := base) D_plus F_ratio
  have F_minus := fn_minus (P := P) (w := w) (base := base) D_minus F_ratio
  have F_times := fn_times (P := P) (w := w) (base := base) D_times F_ratio
  have F_number_at := fn_number_at (P := P) (w := w) (base := base) D_number_at F_ratio
  have F_point_at := fn_point_at (P := P) (w := w) (base := base) D_point_at F_look_at_place F_floor_of F_last_of F_number_at T
  have F_step_from := fn_step_from (P := P) (w := w) (base := base) D_step_from F_minus
  have F_inner_product := fn_inner_product (P := P) (w := w) (base := base) D_inner_product F_plus F_times
  have F_square_between := fn_square_between (P := P) (w := w) (base := base) D_square_between F_step_from F_inner_product
  have F_square_of := fn_square_of (P := P) (w := w) (base := base) D_square_of F_square_between F_point_at
  have F_less := fn_less (P := P) (w := w) (base := base) D_less
  have F_share_a_stretch := fn_share_a_stretch (P := P) (w := w) (base := base) D_share_a_stretch F_less F_floor_of (ratio_weak F_ratio)
  have F_law_cell_at := fn_law_cell_at (P := P) (w := w) (base := base) D_law_cell_at T
  have F_law_begun := fn_law_begun (P := P) (w := w) (base := base) D_law_begun T
  have F_law_take := fn_law_take (P := P) (w := w) (base := base) D_law_take
  have F_law_wide := fn_law_wide (P := P) (w := w) (base := base) D_law_wide F_law_take T
  have F_law_drawn_line := fn_law_drawn_line (P := P) (w := w) (base := base) D_law_drawn_line F_law_take F_law_wide T
  have F_look_at_way := fn_look_at_way (P := P) (w := w) (base := base) D_look_at_way O_NoWay (PySem.W.mg_of X G v_WAYS) hW T
  have F_is_pair := fn_is_pair (P := P) (w := w) (base := base) D_is_pair F_is_place T
  have F_are_pairs := fn_are_pairs (P := P) (w := w) (base := base) D_are_pairs F_is_pair T
  have F_has_right_ends_walks := fn_has_right_ends_walks (P := P) (w := w) (base := base) D_has_right_ends_walks F_last_of
  have F_goes_on := fn_goes_on (P := P) (w := w) (base := base) D_goes_on F_less F_share_a_stretch
  have F_goes_freely := fn_goes_freely (P := P) (w := w) (base := base) D_goes_freely F_share_a_stretch
  have F_hops := fn_hops (P := P) (w := w) (base := base) D_hops
  have F_may_step_walks := fn_may_step_walks (P := P) (w := w) (base := base) D_may_step_walks F_hops F_goes_freely F_goes_on
  have F_has_right_steps_walks := fn_has_right_steps_walks (P := P) (w := w) (base := base) D_has_right_steps_walks F_may_step_walks T
  have F_is_walk := fn_is_walk (P := P) (w := w) (base := base) D_is_walk F_look_at_way F_are_pairs F_has_right_ends_walks F_has_right_steps_walks
  have F_law_moved := fn_law_moved (P := P) (w := w) (base := base) D_law_moved F_law_take T
  have F_law_drawn_other := fn_law_drawn_other (P := P) (w := w) (base := base) D_law_drawn_other F_law_take F_law_moved F_law_drawn_line T
  have F_law_lines := fn_law_lines (P := P) (w := w) (base := base) D_law_lines F_law_cell_at F_law_begun F_law_drawn_line F_law_drawn_other
  have F_law_divisor := fn_law_divisor (P := P) (w := w) (base := base) D_law_divisor T
  have F_law_ratio := fn_law_ratio (P := P) (w := w) (base := base) D_law_ratio F_law_divisor
  have F_law_below := fn_law_below (P := P) (w := w) (base := base) D_law_below
  have F_law_spot_on := fn_law_spot_on (P := P) (w := w) (base := base) D_law_spot_on F_law_take F_law_wide F_law_ratio
  have F_law_any := fn_law_any (P := P) (w := w) (base := base) D_law_any F_law_take F_law_spot_on
  have F_law_ahead := fn_law_ahead (P := P) (w := w) (base := base) D_law_ahead F_law_take F_law_spot_on F_law_below
  have F_law_home := fn_law_home (P := P) (w := w) (base := base) D_law_home T
  have F_law_drawn_walk := fn_law_drawn_walk (P := P) (w := w) (base := base) D_law_drawn_walk F_law_take F_law_any F_law_ahead F_law_home T
  have F_law_whole := fn_law_whole (P := P) (w := w) (base := base) D_law_whole T
  have F_law_is_ratio := fn_law_is_ratio (P := P) (w := w) (base := base) D_law_is_ratio F_law_whole F_law_divisor T
  have F_law_is_place := fn_law_is_place (P := P) (w := w) (base := base) D_law_is_place F_law_is_ratio T
  have F_law_near := fn_law_near (P := P) (w := w) (base := base) D_law_near F_law_below
  have F_law_are_pairs := fn_law_are_pairs (P := P) (w := w) (base := base) D_law_are_pairs F_law_is_place T
  have F_law_goes := fn_law_goes (P := P) (w := w) (base := base) D_law_goes F_law_below F_law_near
  have F_law_is_walk := fn_law_is_walk (P := P) (w := w) (base := base) D_law_is_walk F_law_are_pairs F_law_goes T
  have F_law_spoilt := fn_law_spoilt (P := P) (w := w) (base := base) D_law_spoilt F_law_take F_law_any T
  have F_law_drawn_way := fn_law_drawn_way (P := P) (w := w) (base := base) D_law_drawn_way F_law_take
  have F_law_folded := fn_law_folded (P := P) (w := w) (base := base) D_law_folded T
  have F_number_of_least := fn_number_of_least (P := P) (w := w) (base := base) D_number_of_least F_less T
  have F_number_of_greatest := fn_number_of_greatest (P := P) (w := w) (base := base) D_number_of_greatest F_number_of_least
  have F_walk_square := fn_walk_square (P := P) (w := w) (base := base) D_walk_square O_NoWalk F_is_walk F_square_of F_number_of_greatest
  have F_law_point_at := fn_law_point_at (P := P) (w := w) (base := base) D_law_point_at
  have F_law_square_of := fn_law_square_of (P := P) (w := w) (base := base) D_law_square_of F_law_point_at F_law_ratio
  have F_law_walk_square := fn_law_walk_square (P := P) (w := w) (base := base) D_law_walk_square F_law_square_of F_law_below
  have F_is_small := fn_is_small (P := P) (w := w) (base := base) D_is_small (Hd.int_of X G c_LARGEST) F_is_whole
  have F_is_corner := fn_is_corner (P := P) (w := w) (base := base) D_is_corner F_is_small T
  have F_show_ratio := fn_show_ratio (P := P) (w := w) (base := base) D_show_ratio DG T
  have F_read_whole := fn_read_whole (P := P) (w := w) (base := base) D_read_whole O_NoText DG (Hd.str_of X G c_FIGURES) (Hd.int_of X G c_MOST_FIGURES) T
  have F_law_shown := fn_law_shown (P := P) (w := w) (base := base) D_law_shown DG T
  have F_read_ratio := fn_read_ratio (P := P) (w := w) (base := base) D_read_ratio O_NoText F_is_ratio F_show_ratio F_read_whole T
  have F_two_parts := fn_two_parts (P := P) (w := w) (base := base) D_two_parts O_NoText T
  have F_read_pair := fn_read_pair (P := P) (w := w) (base := base) D_read_pair F_two_parts F_read_ratio
  have F_law_paper_text := fn_law_paper_text (P := P) (w := w) (base := base) D_law_paper_text F_law_shown
  have F_read_paper := fn_read_paper (P := P) (w := w) (base := base) D_read_paper O_NoText (Hd.int_of X G c_MOST_PAIRS) (PySem.W.mg_of X G v_WAYS) hW (PySem.W.mg_of X G v_PAPERS) hP F_read_pair T
  have F_is_line := fn_is_line (P := P) (w := w) (base := base) D_is_line (Hd.int_of X G c_MOST_CORNERS) F_is_corner T
  have F_read_corner := fn_read_corner (P := P) (w := w) (base := base) D_read_corner F_two_parts F_read_whole
  have F_law_line_text := fn_law_line_text (P := P) (w := w) (base := base) D_law_line_text DG T
  have F_read_line := fn_read_line (P := P) (w := w) (base := base) D_read_line O_NoText F_read_corner F_is_line T
  have F_fence_square := fn_fence_square (P := P) (w := w) (base := base) D_fence_square
  have F_judged := fn_judged (P := P) (w := w) (base := base) D_judged DG F_read_line F_read_paper F_show_ratio F_fence_square F_walk_square T
  have F_law_told_of := fn_law_told_of (P := P) (w := w) (base := base) D_law_told_of O_LeashError O_NoText O_NoWalk O_NoFence O_NoLine O_NoPlace O_NoWay m_NoText ⟨fa_NoText,fb_NoText,fc_NoText⟩ it_NoText iw_NoText if_NoText iv_NoText i2_NoText m_NoWalk ⟨fa_NoWalk,fb_NoWalk,fc_NoWalk⟩ it_NoWalk iw_NoWalk if_NoWalk iv_NoWalk i2_NoWalk F_judged T
  have F_law_due_of := fn_law_due_of (P := P) (w := w) (base := base) D_law_due_of F_law_is_walk F_law_walk_square F_law_shown
  have F_law_bad := fn_law_bad (P := P) (w := w) (base := base) D_law_bad F_law_take T
  have F_law_right := fn_law_right (P := P) (w := w) (base := base) D_law_right F_law_line_text F_law_paper_text F_law_told_of F_law_due_of F_law_bad F_law_take
  exact fn_law D_law F_law_lines F_law_folded F_law_begun F_law_drawn_way F_law_drawn_walk F_law_right F_law_spoilt T
end K60
end
open PySem PySem.W PyProof.Rows
set_option maxRecDepth 100000 in
set_option maxHeartbeats 0 in
theorem PySem.Challenge.cw_oneleash_k60_walks_judged_holds : PySem.Challenge.rw_oneleash_k60_walks_judged.Holds := by
  w_on; o_law
  refine holds_open (q := K60.hView) (loose := K60.hLoose) (Xt := fun _ => true) (XP := fun _ _ => True) (Yf := Hook.obs (Hd.hook K60.hFacts K60.hGood)) (Ya := Hook.val (Hd.hook K60.hFacts K60.hGood)) (YP := Hook.says (Hd.hook K60.hFacts K60.hGood)) (N := 100000) K60.hLeft (Hook.of _) (Hook.keeps _) (fun _ _ => trivial) (fun _ _ _ _ _ => trivial) (by rfl) (by rfl) (by rfl) (fun _ _ => recFacts_nil rfl) (by rfl) (by first | assumption | decide +kernel) (by decide +kernel) ⟨rfl,rfl,rfl,rfl,rfl,by decide +kernel⟩ ?hw ?hc
  case hw => w_witness2
  exact Hd.law_walk (l := PySem.Challenge.rw_oneleash_k60_walks_judged) (k := 12) ⟨rfl,by decide,by decide⟩ rfl rfl fun K FK w mg fa h KX G hmg => K60.all_of FK KX G hmg
