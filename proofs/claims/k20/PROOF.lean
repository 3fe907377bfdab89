import PyProof.Rows.All
import Wide.All
import OpenK.AllK
import Wide.FinOn
import Lean
import PyProof.EqAt
import PyProof.EqKinds
import PyProof.TupleCall
import PyProof.ExcArgsOwn
import KE.KTryMore
import PyProof.NsDelKeeps
import PyProof.ConsumeWalk
import PyProof.ZipIter
import PyProof.WalksEnum
import PyProof.EnumMake
import PyProof.NeKinds
import PyProof.CompMap
import KE.KRevIter
import PyProof.ListRange
import PyProof.ReprRoads
import PyProof.CallStr
import PySem.Challenge.RW_oneleash_k20_whole_exchanged_and_turned
section
set_option Elab.async false
set_option linter.all false
set_option maxRecDepth 100000
namespace L2
open PySem PySem.Spec PyProof.Rows
abbrev Key := Sum Int Str
def keyIs : Key → Value → Bool
  | .inl k,v => Value.isInt k v
  | .inr x,v => Value.isStrOf x v
def keyH (w : World) : Key → Int
  | .inl k => hashInt k
  | .inr x => hashStr w x
theorem keyIs_shape : ∀ {k : Key} {v : Value},keyIs k v = true → (∃ i t,k = Sum.inl i ∧ v = Value.int i t) ∨ (∃ x t,k = Sum.inr x ∧ v = Value.str x t)
  | .inl i,v,h => by
    obtain ⟨t,e⟩ := Value.isInt_shape (k := i) (v := v) h
    exact .inl ⟨i,t,rfl,e⟩
  | .inr x,v,h => by
    obtain ⟨t,e⟩ := Value.isStrOf_shape (x := x) (v := v) h
    exact .inr ⟨x,t,rfl,e⟩
theorem key_ll (a b : Int) : decide ((Sum.inl a : Key) = Sum.inl b) = (a == b) := by
  by_cases e : a = b
  · subst e; simp
  · have h : ¬ (Sum.inl a : Key) = Sum.inl b := fun q => e (Sum.inl.inj q)
    rw [decide_eq_false h]
    exact (beq_eq_false_iff_ne.mpr e).symm
theorem key_rr (a b : Str) : decide ((Sum.inr a : Key) = Sum.inr b) = decide (a = b) := by
  by_cases e : a = b
  · subst e; simp
  · have h : ¬ (Sum.inr a : Key) = Sum.inr b := fun q => e (Sum.inr.inj q)
    rw [decide_eq_false h,decide_eq_false e]
theorem key_lr (a : Int) (b : Str) : decide ((Sum.inl a : Key) = Sum.inr b) = false := decide_eq_false (fun q => nomatch q)
theorem key_rl (a : Str) (b : Int) : decide ((Sum.inr a : Key) = Sum.inl b) = false := decide_eq_false (fun q => nomatch q)
def mixKind (prog : Program) (w : World) : PySem.KeyKind prog w Key where
  is := keyIs
  hash := keyH w
  inj := fun v a b ha hb => by
    rcases keyIs_shape ha with ⟨i,t,rfl,rfl⟩ | ⟨x,t,rfl,rfl⟩
    · rcases keyIs_shape hb with ⟨j,u,rfl,e⟩ | ⟨y,u,rfl,e⟩
      · injection e with e1 _; rw [e1]
      · exact nomatch e
    · rcases keyIs_shape hb with ⟨j,u,rfl,e⟩ | ⟨y,u,rfl,e⟩
      · exact nomatch e
      · injection e with e1 _; rw [e1]
  byValue := fun k v h => by
    rcases keyIs_shape h with ⟨i,t,rfl,rfl⟩ | ⟨x,t,rfl,rfl⟩ <;> rfl
  pyHash := fun hv h => by
    rcases keyIs_shape hv with ⟨i,t,rfl,rfl⟩ | ⟨x,t,rfl,rfl⟩
    · exact wpAny_pyHash_int h
    · exact wpAny_pyHash_str h
  eqBool := fun hu hv h => by
    rcases keyIs_shape hu with ⟨i,t,rfl,rfl⟩ | ⟨x,t,rfl,rfl⟩
    · rcases keyIs_shape hv with ⟨j,u,rfl,rfl⟩ | ⟨y,u,rfl,rfl⟩
      · rw [key_ll] at h; exact wpAny_eqBool_int h
      · rw [key_lr] at h; exact SeqAt.EqAt.int_str i t y u _ _ _ _ h
    · rcases keyIs_shape hv with ⟨j,u,rfl,rfl⟩ | ⟨y,u,rfl,rfl⟩
      · rw [key_rl] at h; exact SeqAt.EqAt.str_int x t j u _ _ _ _ h
      · rw [key_rr] at h; exact wpAny_eqBool_str h
  «strs» := fun k x t v h => by
    rcases keyIs_shape h with ⟨i,u,rfl,e⟩ | ⟨y,u,rfl,e⟩
    · exact nomatch e
    · injection e with e1 _
      subst e1
      cases v <;> rfl
end L2
namespace L2
open PySem PySem.Spec PyProof.Rows
inductive V where
  | non | bl (b : Bool) | int (i : Int) | str (x : Str) | byt (b : Array UInt8) | flt (b : UInt64) | ref (a : Addr) | ty (n : String)
  deriving DecidableEq
def RelV : V → Value → Prop
  | .non,u => u = Value.none
  | .bl b,u => u = Value.bool b
  | .int i,u => ∃ t,u = Value.int i t
  | .str x,u => ∃ t,u = Value.str x t
  | .byt b,u => ∃ t,u = Value.bytes b t
  | .flt b,u => ∃ t,u = Value.float b t
  | .ref a,u => u = Value.ref a
  | .ty n,u => u = Value.type n
abbrev Vals : List V → List Value → Prop := Paired RelV
theorem Vals.length {xs : List V} {us : List Value} (r : Vals xs us) : xs.length = us.length := Paired.length r
theorem Vals.get : ∀ {xs : List V} {us : List Value} {i : Nat} {x : V},Vals xs us → xs[i]? = some x → ∃ u,us[i]? = some u ∧ RelV x u
  | _,_,_,_,.nil,e => by simp at e
  | _,_,0,_,.cons r _,e => by simp at e; subst e; exact ⟨_,rfl,r⟩
  | _,_,i + 1,x,.cons _ t,e => by
    obtain ⟨u,h1,h2⟩ := Vals.get (i := i) (x := x) t (by simpa using e)
    exact ⟨u,by simpa using h1,h2⟩
theorem Vals.set {x : V} {u : Value} (r : RelV x u) : ∀ {xs : List V} {us : List Value} (i : Nat),Vals xs us → Vals (xs.set i x) (us.set i u)
  | _,_,_,.nil => .nil
  | _,_,0,.cons _ t => .cons r t
  | _,_,i + 1,.cons q t => .cons q (Vals.set r i t)
theorem Vals.append : ∀ {xs ys : List V} {us ws : List Value},Vals xs us → Vals ys ws → Vals (xs ++ ys) (us ++ ws)
  | _,_,_,_,.nil,s => s
  | _,_,_,_,.cons r t,s => .cons r (Vals.append t s)
theorem Vals.take : ∀ {xs : List V} {us : List Value} (n : Nat),Vals xs us → Vals (xs.take n) (us.take n)
  | _,_,0,_ => .nil
  | _,_,_ + 1,.nil => .nil
  | _,_,n + 1,.cons r t => .cons r (Vals.take n t)
theorem Vals.drop : ∀ {xs : List V} {us : List Value} (n : Nat),Vals xs us → Vals (xs.drop n) (us.drop n)
  | _,_,0,r => r
  | _,_,_ + 1,.nil => .nil
  | _,_,n + 1,.cons _ t => Vals.drop n t
def RelO : Option V → Option Value → Prop
  | some v,some u => RelV v u
  | none,none => True
  | _,_ => False
def KV {κ : Type} : List (κ × V) → List (κ × Value) → Prop := Paired fun (p : κ × V) (q : κ × Value) => p.1 = q.1 ∧ RelV p.2 q.2
def kV : Key → V
  | .inl i => .int i
  | .inr x => .str x
inductive HO where
  /-- a list -/
  | lst (xs : List V)
  /-- a tuple (never changes) -/
  | tup (xs : List V)
  /-- a dict whose keys are ints and texts; one whose keys are tuples of ints and texts (the empty one is both) -/
  | dK (kvs : List (Key × V)) | dT (kvs : List (List Key × V))
  /-- a set of ints: its members,its size -/
  | set (S : Int → Bool) (n : Nat)
  /-- an instance of the class at C,its dict at dx,its attributes -/
  | ins (C dx : Addr) (fs : List (Str × V))
  /-- the dict of the instance at x -/
  | own (x : Addr)
  /-- the dict of an exception -/
  | xd (fs : List (Str × V))
  /-- a bound method,f of x -/
  | met (f x : Addr)
  /-- a range object lo,lo + 1,.. below hi -/
  | rng (lo hi : Int)
  /-- a thing that is known to the object (the script; a dict while a loop walks it): read,never written while it is so -/
  | frz (o : Obj) (u : HO)
  /-- a code object's table -/
  | tbl (ps : Array Value)
  /-- any other thing,by what is true of its one object (a def of one's own: SetO a S n := HO.ext fun h => ..) -/
  | ext (φ : Heap → Prop)
abbrev Hp := Addr → Option HO
def upd (H : Hp) (a : Addr) (o : HO) : Hp := fun b => if b = a then some o else H b
theorem upd_same {H : Hp} {a : Addr} {o : HO} : upd H a o a = some o := by unfold upd; rw [if_pos rfl]
theorem upd_ne {H : Hp} {a b : Addr} {o : HO} (h : b ≠ a) : upd H a o b = H b := by unfold upd; rw [if_neg h]
theorem ne_of {H : Hp} {a b : Addr} {o u : HO} (h : H a = some o) (h' : H b = some u) (d : o ≠ u) : a ≠ b := by
  intro e; subst e; rw [h] at h'; exact d (Option.some.inj h')
theorem ne_of_none {H : Hp} {a b : Addr} {o : HO} (h : H a = some o) (h' : H b = none) : a ≠ b := by
  intro e; subst e; rw [h] at h'; cases h'
section
variable (P : Program) (w : World)
def ObjOk (H : Hp) (h : Heap) (a : Addr) : HO → Prop
  | .lst xs => xs.length ≤ sizeLine ∧ ∃ (its : List Value) (n : Nat),Vals xs its ∧ h.get? a = some { cls := .type "list",data := .seq its.toArray n }
  | .tup xs => xs.length ≤ sizeLine ∧ ∃ its : List Value,Vals xs its ∧ IsTup h a its.toArray
  | .dK kvs => kvs.length ≤ sizeLine ∧ (a == sysModules) = false ∧ ∃ vs,KV kvs vs ∧ h.DictOf (mixKind P w) a vs
  | .dT kvs => kvs.length ≤ sizeLine ∧ (a == sysModules) = false ∧ ∃ xs : List (List Key × Addr × Value),
      Paired (fun (p : List Key × V) (q : List Key × Addr × Value) => p.1 = q.1 ∧ H q.2.1 = some (.tup (p.1.map kV)) ∧ RelV p.2 q.2.2) kvs xs ∧
      ∃ o es ep,h.get? a = some o ∧ o.ExactDict ∧ o.data = .dict es ep ∧ es.toList = xs.map (entryOfKey (tupleKind (mixKind P w))) ∧ (xs.map (·.1)).Nodup
  | .set S n => h.SetOf (intKind P w) a S n
  | .ins C dx fs => H dx = some (.own a) ∧ fs.length ≤ 1000 ∧ dx ≠ a ∧ h.get? a = some (PySem.W.instObj C dx) ∧
      ∃ mA,h.Ns1 dx mA ∧ (∀ f,RelO (fs.lookup f) (mA f)) ∧ PySem.Within mA (fs.map (·.1))
  | .own _ => ∃ o,h.get? a = some o
  | .xd fs => ∃ mA,h.Ns1 a mA ∧ ∀ f,RelO (fs.lookup f) (mA f)
  | .rng lo hi => ∃ t u v,h.get? a = some { cls := .type "range",data := .fields #[.int lo t,.int hi u,.int 1 v] }
  | .frz o u => h.get? a = some o ∧ ObjOk H h a u
  | .tbl ps => h.get? a = some { cls := .none,data := .fields ps }
  | .met f x => h.get? a = some (PySem.W.methodObj (.ref f) (.ref x))
  | .ext φ => φ h ∧ (∃ o,h.get? a = some o) ∧ ∀ h1 h2 : Heap,φ h1 → (∀ o,h1.get? a = some o → h2.get? a = some o) → φ h2
def HOk (H : Hp) (h : Heap) : Prop := ∀ a o,H a = some o → ObjOk P w H h a o
end
section
variable {P : Program} {w : World} {H H' : Hp} {h h' : Heap} {a : Addr} {o : HO}
theorem ObjOk.lt (x : ObjOk P w H h a o) : a < h.objs.size := by
  cases o with
  | lst xs => obtain ⟨_,_,_,_,e⟩ := x; exact Heap.lt_size e
  | tup xs => obtain ⟨_,_,_,p⟩ := x; exact p.lt
  | dK kvs => obtain ⟨_,_,_,_,o,_,_,e,_⟩ := x; exact Heap.lt_size e
  | dT kvs => obtain ⟨_,_,_,_,o,_,_,e,_⟩ := x; exact Heap.lt_size e
  | set S n => obtain ⟨o,_,_,_,e,_⟩ := x; exact Heap.lt_size e
  | ins C dx fs => obtain ⟨_,_,_,e,_⟩ := x; exact Heap.lt_size e
  | own y => obtain ⟨_,e⟩ := x; exact Heap.lt_size e
  | xd fs => obtain ⟨_,⟨_,_,_,e,_⟩,_⟩ := x; exact Heap.lt_size e
  | rng lo hi => obtain ⟨_,_,_,e⟩ := x; exact Heap.lt_size e
  | frz ob u => obtain ⟨e,_⟩ := x; exact Heap.lt_size e
  | tbl ps => exact Heap.lt_size (show h.get? a = some _ from x)
  | met f y => exact Heap.lt_size (show h.get? a = some _ from x)
  | ext φ => obtain ⟨_,⟨_,e⟩,_⟩ := x; exact Heap.lt_size e
theorem Paired.mapP {α β : Type} {F G : α → β → Prop} : ∀ {l₁ : List α} {l₂ : List β},Paired F l₁ l₂ → (∀ a b,F a b → G a b) → Paired G l₁ l₂
  | _,_,.nil,_ => .nil
  | _,_,.cons r t,f => .cons (f _ _ r) (Paired.mapP t f)
theorem ObjOk.stay (x : ObjOk P w H h a o) (k : ∀ b u,(b = a ∨ H b = some (.own a)) → h.get? b = some u → h'.get? b = some u)
    (ho : ∀ b,H b = some (.own a) → H' b = some (.own a)) (ht : ∀ b xs,H b = some (.tup xs) → H' b = some (.tup xs)) : ObjOk P w H' h' a o := by
  induction o with
  | lst xs => obtain ⟨z,its,n,r,e⟩ := x; exact ⟨z,its,n,r,k _ _ (.inl rfl) e⟩
  | tup xs => obtain ⟨z,its,r,ob,e,c⟩ := x; exact ⟨z,its,r,ob,k _ _ (.inl rfl) e,c⟩
  | dK kvs => obtain ⟨z,y,vs,r,ob,es,ep,e,c⟩ := x; exact ⟨z,y,vs,r,ob,es,ep,k _ _ (.inl rfl) e,c⟩
  | dT kvs =>
    obtain ⟨z,y,xs,r,ob,es,ep,e,c⟩ := x
    exact ⟨z,y,xs,Paired.mapP r fun p q z => ⟨z.1,ht _ _ z.2.1,z.2.2⟩,ob,es,ep,k _ _ (.inl rfl) e,c⟩
  | set S n => obtain ⟨ob,es,ep,t,e,c⟩ := x; exact ⟨ob,es,ep,t,k _ _ (.inl rfl) e,c⟩
  | ins C dx fs =>
    obtain ⟨d,z,ne,e,mA,⟨od,es,ep,e2,c⟩,r⟩ := x
    exact ⟨ho _ d,z,ne,k _ _ (.inl rfl) e,mA,⟨od,es,ep,k _ _ (.inr d) e2,c⟩,r⟩
  | own y => obtain ⟨ob,e⟩ := x; exact ⟨ob,k _ _ (.inl rfl) e⟩
  | xd fs => obtain ⟨mA,⟨od,es,ep,e,c⟩,r⟩ := x; exact ⟨mA,⟨od,es,ep,k _ _ (.inl rfl) e,c⟩,r⟩
  | rng lo hi => obtain ⟨t,u,v,e⟩ := x; exact ⟨t,u,v,k _ _ (.inl rfl) e⟩
  | frz ob u ih => obtain ⟨e,q⟩ := x; exact ⟨k _ _ (.inl rfl) e,ih q⟩
  | tbl ps =>
    have e : h.get? a = some { cls := .none,data := .fields ps } := x
    show h'.get? a = some { cls := .none,data := .fields ps }
    exact k a _ (.inl rfl) e
  | met f y =>
    have e : h.get? a = some (PySem.W.methodObj (.ref f) (.ref y)) := x
    show h'.get? a = some (PySem.W.methodObj (.ref f) (.ref y))
    exact k a _ (.inl rfl) e
  | ext φ => obtain ⟨p,⟨o,e⟩,st⟩ := x; exact ⟨st _ _ p fun o q => k _ _ (.inl rfl) q,⟨o,k _ _ (.inl rfl) e⟩,st⟩
theorem HOk.lt (x : HOk P w H h) (e : H a = some o) : a < h.objs.size := (x a o e).lt
theorem HOk.fresh (x : HOk P w H h) (e : h.objs.size ≤ a) : H a = none := by
  cases q : H a with
  | none => rfl
  | some u => exact absurd (Nat.lt_of_lt_of_le (x.lt q) e) (Nat.lt_irrefl _)
theorem HOk.kept (x : HOk P w H h) (k : ∀ b u,h.get? b = some u → h'.get? b = some u) : HOk P w H h' := fun a o e =>
  (x a o e).stay (fun b u _ q => k b u q) (fun _ q => q) fun _ _ q => q
theorem HOk.laid (x : HOk P w H h) (k : ∀ b u,h.get? b = some u → h'.get? b = some u) (hp : h.objs.size ≤ a) (new : ObjOk P w (upd H a o) h' a o) : HOk P w (upd H a o) h' := fun b u e => by
  have hn := x.fresh hp
  by_cases hb : b = a
  · subst hb; rw [upd_same] at e; cases e; exact new
  · rw [upd_ne hb] at e
    exact (x b u e).stay (fun c v _ q => k c v q) (fun c q => by rw [upd_ne (ne_of_none q hn)]; exact q) fun c xs q => by rw [upd_ne (ne_of_none q hn)]; exact q
end
def Rd (H : Hp) (a : Addr) (u : HO) : Prop := H a = some u ∨ ∃ o,H a = some (.frz o u)
theorem Rd.ok {P : Program} {w : World} {H : Hp} {h : Heap} {a : Addr} {u : HO} (r : Rd H a u) (x : HOk P w H h) : ObjOk P w H h a u := by
  rcases r with r | ⟨o,r⟩
  · exact x a u r
  · obtain ⟨_,q⟩ := x a _ r
    exact q
def Mut : Option HO → Prop
  | some (.lst _) => True
  | some (.dK _) => True
  | some (.dT _) => True
  | some (.set _ _) => True
  | some (.ins _ _ _) => True
  | some (.ext _) => True
  | _ => False
section
variable {P : Program} {w : World} {H : Hp} {h h' : Heap} {x e : Addr} {o' : HO}
theorem HOk.write (ok : HOk P w H h) (mu : Mut (H x)) (he : e = x ∨ H e = some (.own x)) (k : ∀ b u,b ≠ e → h.get? b = some u → h'.get? b = some u) (heo : ∃ u,h'.get? e = some u)
    (new : ObjOk P w (upd H x o') h' x o') : HOk P w (upd H x o') h' := fun b u q => by
  have nown : ∀ c y,H c = some (.own y) → c ≠ x := fun c y r z => by subst z; rw [r] at mu; exact mu
  have ntup : ∀ c xs,H c = some (.tup xs) → c ≠ x := fun c xs r z => by subst z; rw [r] at mu; exact mu
  by_cases hb : b = x
  · subst hb; rw [upd_same] at q; cases q; exact new
  · rw [upd_ne hb] at q
    by_cases hbe : b = e
    · have q' : H b = some (.own x) := by
        rcases he with z | z
        · exact absurd (hbe.trans z) hb
        · rw [hbe]; exact z
      rw [q] at q'; cases q'
      obtain ⟨v,hv⟩ := heo
      exact ⟨v,by rw [hbe]; exact hv⟩
    · refine (ok b u q).stay (fun c v hc r => k c v ?_ r) (fun c r => by rw [upd_ne (nown c b r)]; exact r) fun c xs r => by rw [upd_ne (ntup c xs r)]; exact r
      rcases hc with rfl | hc
      · exact hbe
      · rintro rfl
        rcases he with z | z
        · exact nown c b hc z
        · rw [hc] at z; cases z; exact hb rfl
end
structure Un (fs ex : List Addr) (H H' : Hp) (h h' : Heap) : Prop where
  keep : ∀ b o,h.get? b = some o → H b = none → b ∉ fs → b ∉ ex → h'.get? b = some o
  slot : ∀ b o,h.get? b = some o → H b = none → b ∈ fs → b ∉ ex → ∃ sl,h'.get? b = some { o with slots := sl }
  free : ∀ b o,h.get? b = some o → H b = none → b ∉ ex → H' b = none
  there : ∀ b o,h.get? b = some o → b ∉ ex → ∃ o',h'.get? b = some o'
  tups : ∀ b xs,H b = some (.tup xs) → H' b = some (.tup xs)
  frzs : ∀ b o u,H b = some (.frz o u) → H' b = some (.frz o u)
  tbls : ∀ b ps,H b = some (.tbl ps) → ∃ more,H' b = some (.tbl (ps ++ more))
section
variable {fs fs' ex ex' : List Addr} {H H1 H2 : Hp} {h h1 h2 h' : Heap} {a x e : Addr} {o : HO}
theorem Un.any (u : Un fs ex H H1 h h1) {b : Addr} {ob : Obj} (q : h.get? b = some ob) (n : H b = none) (hx : b ∉ ex) : ∃ sl,h1.get? b = some { ob with slots := sl } := by
  by_cases hb : b ∈ fs
  · exact u.slot b ob q n hb hx
  · exact ⟨ob.slots,u.keep b ob q n hb hx⟩
theorem Un.kept (k : ∀ b u,h.get? b = some u → h'.get? b = some u) : Un fs ex H H h h' :=
  ⟨fun b ob q _ _ _ => k b ob q,fun b ob q _ _ _ => ⟨ob.slots,k b ob q⟩,fun _ _ _ n _ => n,fun b ob q _ => ⟨ob,k b ob q⟩,fun _ _ q => q,fun _ _ _ q => q,fun _ ps q => ⟨#[],by rw [q]; simp⟩⟩
theorem Un.refl : Un fs ex H H h h := Un.kept fun _ _ q => q
theorem Un.laid (k : ∀ b u,h.get? b = some u → h'.get? b = some u) (hp : h.objs.size ≤ a) (hn : H a = none) : Un fs ex H (upd H a o) h h' where
  keep := fun b u q _ _ _ => k b u q
  slot := fun b u q _ _ _ => ⟨u.slots,k b u q⟩
  free := fun b u q n _ => by rw [upd_ne (Nat.ne_of_lt (Nat.lt_of_lt_of_le (Heap.lt_size q) hp))]; exact n
  there := fun b u q _ => ⟨u,k b u q⟩
  tups := fun b xs q => by rw [upd_ne (ne_of_none q hn)]; exact q
  frzs := fun b u xs q => by rw [upd_ne (ne_of_none q hn)]; exact q
  tbls := fun b ps q => ⟨#[],by rw [upd_ne (ne_of_none q hn),q]; simp⟩
theorem Un.write (mu : Mut (H x)) (he : e = x ∨ H e = some (.own x)) (k : ∀ b u,b ≠ e → h.get? b = some u → h'.get? b = some u) (heo : ∃ u,h'.get? e = some u) : Un fs ex H (upd H x o) h h' := by
  have hx : ∀ b,H b = none → b ≠ x := fun b n z => by subst z; rw [n] at mu; exact mu
  have hb : ∀ b,H b = none → b ≠ e := fun b n z => by
    subst z
    rcases he with r | r
    · exact hx b n r
    · rw [n] at r; cases r
  have hm : ∀ b u,H b = some u → ¬ Mut (some u) → b ≠ x := fun b u q nm z => by subst z; rw [q] at mu; exact nm mu
  refine ⟨fun b u q n _ _ => k b u (hb b n) q,fun b u q n _ _ => ⟨u.slots,k b u (hb b n) q⟩,fun b u q n _ => by rw [upd_ne (hx b n)]; exact n,fun b u q _ => ?_,
    fun b xs q => by rw [upd_ne (hm b _ q fun z => z)]; exact q,fun b u xs q => by rw [upd_ne (hm b _ q fun z => z)]; exact q,fun b ps q => ⟨#[],by rw [upd_ne (hm b _ q fun z => z),q]; simp⟩⟩
  by_cases hbe : b = e
  · subst hbe; exact heo
  · exact ⟨u,k b u hbe q⟩
end
def trk (h : Heap) (H : Hp) : List Addr := (List.range h.objs.size).filter fun a => (H a).isSome
def hidT (h : Heap) (H : Hp) : Heap := PySem.W.hideAll h (trk h H)
theorem hidT_size (h : Heap) (H : Hp) : (hidT h H).objs.size = h.objs.size := PySem.W.hideAll_size _ _
theorem hidT_get {h : Heap} {H : Hp} {b : Addr} {o : Obj} (e : h.get? b = some o) (n : H b = none) : (hidT h H).get? b = some o :=
  PySem.W.hideAll_get _ e fun hm => by
    have q : (H b).isSome = true := (List.mem_filter.mp hm).2
    rw [n] at q; simp at q
theorem of_hidT {h : Heap} {H : Hp} {b : Addr} {o : Obj} (e : (hidT h H).get? b = some o) : h.get? b = some o ∧ H b = none := by
  have e' : h.get? b = some o := PySem.W.of_hideAll (trk h H) e
  refine ⟨e',?_⟩
  cases q : H b with
  | none => rfl
  | some x =>
    have hm : b ∈ trk h H := List.mem_filter.mpr ⟨List.mem_range.mpr (Heap.lt_size e'),by simp [q]⟩
    have z : (hidT h H).get? b = none := PySem.W.hideAll_none (trk h H) hm
    rw [z] at e; cases e
end L2
namespace L2
open PySem PySem.Spec PyProof.Rows
structure Mod (K : PySem.W.Frag) (mg : Str → Option Value) (base : Heap) : Prop where
  kin : K.In base
  glob : base.Ns mainGlobals mg
  blt : ∃ mb,base.Ns builtinsNs mb ∧ ∀ x : Str,x ≠ "__name__" → mb x = bootBuiltins x
  nolimit : base.NoLimit
structure Cx where
  prog : Program
  w : World
  K : PySem.W.Frag
  mg : Str → Option Value
  base : Heap
  A : Around
  N : List Str
  s₀ : Shared
  H₀ : Hp
  env : Env
  outer : List Env
  stack : List Env
  ex : List Addr
  fn : Str → Bool
  calm : Bool
  pn : List (Addr × Obj)
  xe : Value → Shared → Prop
def frs (l : List Env) : List Addr := l.filterMap (·.frame)
abbrev Cx.fs (X : Cx) : List Addr := frs X.outer
def Vis (sc : Scope) (x : Str) : Prop := sc.names.lookup x = some .local ∨ sc.names.lookup x = some .cell ∨ sc.names.lookup x = some .free
def Loc (sc : Scope) (x : Str) : Prop := sc.names.lookup x = some .local ∨ sc.names.lookup x = some .cell
def Look (env : Env) (h : Heap) (m : Str → Option Value) (x : Str) (u : Value) : Prop :=
  (env.kindOf x = some .local ∧ m x = some u) ∨ ((env.kindOf x = some .cell ∨ env.kindOf x = some .free) ∧ ∃ c,env.cells.lookup x = some c ∧ h.IsCell c (some u))
structure Cx.Ok (X : Cx) : Prop where
  mod : Mod X.K X.mg X.base
  kind : X.env.scope.kind = .function
  glob : X.env.globals = mainGlobals
  blt : X.env.builtins = builtinsNs
  above : X.s₀.heap.objs.size ≤ X.env.locals
  inj : ∀ x y c,X.env.cells.lookup x = some c → X.env.cells.lookup y = some c → x = y
  has : ∀ x,(X.env.kindOf x = some .cell ∨ X.env.kindOf x = some .free) → ∃ c,X.env.cells.lookup x = some c
  cab : ∀ x c,X.fn x = true → X.env.cells.lookup x = some c → X.s₀.heap.objs.size ≤ c
  hd : X.calm = true → X.A.handled = none
  frames : X.A.frames = some X.stack
  stk : X.stack = X.outer ∨ (X.stack = X.env :: X.outer ∧ X.env.frame = some X.env.locals)
  exf : ∀ b ∈ X.ex,b ≠ X.env.locals ∧ ∀ x c,X.env.cells.lookup x = some c → c ≠ b
  bs : ∀ b o,X.base.get? b = some o → X.s₀.heap.get? b = some o ∧ X.H₀ b = none
  bsz : X.base.objs.size ≤ X.s₀.heap.objs.size
  noex : ∀ b o,X.base.get? b = some o → b ∉ X.ex
  exfs : ∀ b ∈ X.ex,b ∉ X.fs
  funs : X.s₀.heap.FunFrames X.base X.outer
  frf : ∀ b ∈ X.fs,X.H₀ b = none
structure Inv (X : Cx) (pins : List (Addr × Obj)) (σ : List (Option V)) (H : Hp) (s : Shared) : Prop where
  ok : X.Ok
  os : s.os = X.s₀.os
  bare : AllBare s.gens
  base : Un X.fs X.ex X.H₀ H X.s₀.heap s.heap
  loc : ∃ m,s.heap.Ns X.env.locals m ∧ ∀ (i : Nat) (x : Str) (v : V),X.N[i]? = some x → σ[i]? = some (some v) → Vis X.env.scope x → ∃ u,RelV v u ∧ Look X.env s.heap m x u
  cell : ∀ x c,X.env.cells.lookup x = some c → ∃ v,s.heap.IsCell c v
  free : H X.env.locals = none
  freeC : ∀ x c,X.env.cells.lookup x = some c → H c = none
  pin : ∀ p ∈ X.pn ++ pins,s.heap.get? p.1 = some p.2 ∧ H p.1 = none ∧ p.1 ≠ X.env.locals ∧ p.1 ∉ X.fs ∧ ∀ v,p.2.data ≠ .cell v
  hok : HOk X.prog X.w H s.heap
  len : σ.length = X.N.length
section
variable {X : Cx} {pins : List (Addr × Obj)} {σ : List (Option V)} {H H' : Hp} {s : Shared} {h' : Heap}
theorem Cx.Ok.nofr (ok : X.Ok) {b : Addr} {o : Obj} (e : X.base.get? b = some o) : b ∉ X.fs := fun hb => by
  have := (ok.funs.mem hb).1
  rw [e] at this; cases this
theorem Inv.bs (I : Inv X pins σ H s) : ∀ b o,X.base.get? b = some o → s.heap.get? b = some o ∧ H b = none := fun b o e =>
  ⟨I.base.keep b o (I.ok.bs b o e).1 (I.ok.bs b o e).2 (I.ok.nofr e) (I.ok.noex b o e),I.base.free b o (I.ok.bs b o e).1 (I.ok.bs b o e).2 (I.ok.noex b o e)⟩
theorem Inv.bk (I : Inv X pins σ H s) : ∀ b o,X.base.get? b = some o → s.heap.get? b = some o := fun b o e => (I.bs b o e).1
theorem Inv.mod (I : Inv X pins σ H s) : Mod X.K X.mg X.base := I.ok.mod
theorem Inv.kIn (I : Inv X pins σ H s) : X.K.In s.heap := I.ok.mod.kin.keeps I.bk
theorem Inv.lt (I : Inv X pins σ H s) : X.env.locals < s.heap.objs.size := let ⟨_,hn,_⟩ := I.loc; hn.lt
theorem Inv.sz (I : Inv X pins σ H s) : X.s₀.heap.objs.size ≤ s.heap.objs.size := Nat.le_trans I.ok.above (Nat.le_of_lt I.lt)
theorem Inv.nofs (I : Inv X pins σ H s) {a : Addr} (h : s.heap.objs.size ≤ a) : a ∉ X.fs := fun hb => by
  obtain ⟨_,o,ho,_⟩ := I.ok.funs.mem hb
  exact absurd (Nat.lt_of_lt_of_le (Heap.lt_size ho) (Nat.le_trans I.sz h)) (Nat.lt_irrefl _)
theorem Inv.cne (I : Inv X pins σ H s) : ∀ x c,X.env.cells.lookup x = some c → c ≠ X.env.locals := fun x c e z => by
  obtain ⟨v,o,ho,hd⟩ := I.cell x c e
  obtain ⟨m,⟨o',es,ep,ho',hd',_⟩,_⟩ := I.loc
  rw [z,ho'] at ho; cases ho; rw [hd'] at hd; cases hd
theorem Inv.funs (I : Inv X pins σ H s) : s.heap.FunFrames X.base X.outer := by
  have all : ∀ (l : List Env),(∀ b ∈ frs l,b ∈ X.fs) → X.s₀.heap.FunFrames X.base l → s.heap.FunFrames X.base l := by
    intro l
    induction l with
    | nil => intro _ _; trivial
    | cons env r ih =>
      intro hs hl
      obtain ⟨hk,⟨L,o,hf,hn,ho,hd⟩,hr⟩ := hl
      have hL : L ∈ X.fs := hs L (by unfold frs; rw [List.filterMap_cons,hf]; exact List.mem_cons_self)
      obtain ⟨sl,e⟩ := I.base.slot L o ho (I.ok.frf L hL) hL fun z => I.ok.exfs L z hL
      exact ⟨hk,⟨L,_,hf,hn,e,hd⟩,ih (fun b hb => hs b (by unfold frs; rw [List.filterMap_cons,hf]; exact List.mem_cons_of_mem _ hb)) hr⟩
  exact all X.outer (fun _ hb => hb) I.ok.funs
theorem Inv.stack (I : Inv X pins σ H s) : s.heap.FunFrames X.base X.stack := by
  rcases I.ok.stk with e | ⟨e,hf⟩
  · rw [e]; exact I.funs
  · rw [e]
    obtain ⟨m,hn,_⟩ := I.loc
    refine .cons (by rw [I.ok.kind]; decide) hf hn ?_ I.funs
    exact Heap.get?_none_of_le (Nat.le_trans I.ok.bsz I.ok.above)
theorem Inv.stkSub (I : Inv X pins σ H s) : ∀ b ∈ frs X.stack,b ∈ X.env.locals :: X.fs := fun b hb => by
  rcases I.ok.stk with e | ⟨e,hf⟩
  · rw [e] at hb; exact List.mem_cons_of_mem _ hb
  · rw [e] at hb
    unfold frs at hb
    rw [List.filterMap_cons,hf] at hb
    exact hb
theorem Inv.stkFree (I : Inv X pins σ H s) : ∀ b ∈ frs X.stack,H b = none := fun b hb => by
  rcases List.mem_cons.mp (I.stkSub b hb) with e | hb
  · rw [e]; exact I.free
  · obtain ⟨_,o,ho,_⟩ := I.ok.funs.mem hb
    exact I.base.free b o ho (I.ok.frf b hb) fun z => I.ok.exfs b z hb
theorem Inv.step {g' : Array GenState} {t' : Nat} {d' : Drawn} {ch : List Addr} (I : Inv X pins σ H s)
    (hch : ∀ b ∈ ch,(b ∈ X.ex ∨ X.s₀.heap.objs.size ≤ b) ∧ b ≠ X.env.locals ∧ (∀ x c,X.env.cells.lookup x = some c → c ≠ b) ∧ ∀ p ∈ X.pn ++ pins,p.1 ≠ b)
    (keep : ∀ b o,b ≠ X.env.locals → b ∉ X.fs → b ∉ ch → s.heap.get? b = some o → H b = none → h'.get? b = some o)
    (slot : ∀ b o,b ≠ X.env.locals → b ∈ X.fs → b ∉ ch → s.heap.get? b = some o → H b = none → ∃ sl,h'.get? b = some { o with slots := sl }) (free : ∀ b o,b ∉ ch → s.heap.get? b = some o → H b = none → H' b = none)
    (there : ∀ b o,b ∉ ch → s.heap.get? b = some o → ∃ o',h'.get? b = some o')
    (tups : ∀ b xs,H b = some (.tup xs) → H' b = some (.tup xs)) (frzs : ∀ b o u,H b = some (.frz o u) → H' b = some (.frz o u)) (tbls : ∀ b ps,H b = some (.tbl ps) → ∃ more,H' b = some (.tbl (ps ++ more)))
    (ns : ∀ m,s.heap.Ns X.env.locals m → h'.Ns X.env.locals m) (hok : HOk X.prog X.w H' h') (hg : AllBare g') :
    Inv X pins σ H' { s with heap := h',gens := g',drawn := d',toks := t' } := by
  have neL : ∀ b o,X.s₀.heap.get? b = some o → b ≠ X.env.locals := fun b o e => Nat.ne_of_lt (Nat.lt_of_lt_of_le (Heap.lt_size e) I.ok.above)
  have neC : ∀ b o,X.s₀.heap.get? b = some o → b ∉ X.ex → b ∉ ch := fun b o e hx hb => by
    rcases (hch b hb).1 with z | z
    · exact hx z
    · exact absurd (Nat.lt_of_lt_of_le (Heap.lt_size e) z) (Nat.lt_irrefl _)
  have cellK : ∀ x c,X.env.cells.lookup x = some c → ∀ v,s.heap.IsCell c v → h'.IsCell c v := fun x c e v ⟨o,ho,hd⟩ => by
    have nch : c ∉ ch := fun z => (hch c z).2.2.1 x c e rfl
    by_cases hc : c ∈ X.fs
    · obtain ⟨sl,q⟩ := slot c o (I.cne x c e) hc nch ho (I.freeC x c e)
      exact ⟨_,q,hd⟩
    · exact ⟨o,keep c o (I.cne x c e) hc nch ho (I.freeC x c e),hd⟩
  refine ⟨I.ok,I.os,hg,⟨fun b o e n hb hx => ?_,fun b o e n hb hx => ?_,fun b o e n hx => ?_,fun b o e hx => ?_,fun b xs e => tups b xs (I.base.tups b xs e),fun b o xs e => frzs b o xs (I.base.frzs b o xs e),fun b ps e => ?_⟩,?_,fun x c e => ?_,?_,fun x c e => ?_,fun p hp => ?_,hok,I.len⟩
  · exact keep b o (neL b o e) hb (neC b o e hx) (I.base.keep b o e n hb hx) (I.base.free b o e n hx)
  · obtain ⟨sl,e1⟩ := I.base.slot b o e n hb hx
    obtain ⟨sl',e2⟩ := slot b _ (neL b o e) hb (neC b o e hx) e1 (I.base.free b o e n hx)
    exact ⟨sl',e2⟩
  · obtain ⟨o',e1⟩ := I.base.there b o e hx
    exact free b o' (neC b o e hx) e1 (I.base.free b o e n hx)
  · obtain ⟨o',e1⟩ := I.base.there b o e hx
    exact there b o' (neC b o e hx) e1
  · obtain ⟨m1,e1⟩ := I.base.tbls b ps e
    obtain ⟨m2,e2⟩ := tbls b _ e1
    exact ⟨m1 ++ m2,by rw [e2,Array.append_assoc]⟩
  · obtain ⟨m,hn,hl⟩ := I.loc
    refine ⟨m,ns m hn,fun i x v e1 e2 e3 => ?_⟩
    obtain ⟨u,r,l⟩ := hl i x v e1 e2 e3
    refine ⟨u,r,?_⟩
    rcases l with l | ⟨k,c,e,z⟩
    · exact .inl l
    · exact .inr ⟨k,c,e,cellK x c e _ z⟩
  · obtain ⟨v,z⟩ := I.cell x c e
    exact ⟨v,cellK x c e v z⟩
  · obtain ⟨m,⟨o,_,_,ho,_⟩,_⟩ := I.loc
    exact free _ o (fun z => (hch _ z).2.1 rfl) ho I.free
  · obtain ⟨v,o,ho,hd⟩ := I.cell x c e
    exact free c o (fun z => (hch c z).2.2.1 x c e rfl) ho (I.freeC x c e)
  · obtain ⟨e,n,ne,nf,d⟩ := I.pin p hp
    have nch : p.1 ∉ ch := fun z => (hch p.1 z).2.2.2 p hp rfl
    exact ⟨keep p.1 p.2 ne nf nch e n,free p.1 p.2 nch e n,ne,nf,d⟩
theorem Inv.un {t' : Nat} (I : Inv X pins σ H s) (u : Un X.fs [] H H' s.heap h') (hok : HOk X.prog X.w H' h') : Inv X pins σ H' { s with heap := h',toks := t' } := by
  obtain ⟨m,⟨o,es,ep,ho,r⟩,_⟩ := id I.loc
  obtain ⟨sl,hL⟩ := u.any ho I.free (by simp)
  exact I.step (g' := s.gens) (d' := s.drawn) (ch := []) (fun _ z => nomatch z) (fun b o _ hb _ e n => u.keep b o e n hb (by simp)) (fun b o _ hb _ e n => u.slot b o e n hb (by simp)) (fun b o _ e n => u.free b o e n (by simp)) (fun b o _ e => u.there b o e (by simp)) u.tups u.frzs u.tbls (fun m' hm => by
    obtain ⟨o',es',ep',ho',r'⟩ := hm
    rw [ho] at ho'; cases ho'
    exact ⟨_,es',ep',hL,r'⟩) hok I.bare
theorem Inv.call {g' : Array GenState} {t' : Nat} {d' : Drawn} {ch : List Addr} (I : Inv X pins σ H s) (u : Un (frs X.stack) ch H H' s.heap h') (hok : HOk X.prog X.w H' h') (hg : AllBare g')
    (hch : ∀ b ∈ ch,(b ∈ X.ex ∨ X.s₀.heap.objs.size ≤ b) ∧ b ≠ X.env.locals ∧ (∀ x c,X.env.cells.lookup x = some c → c ≠ b) ∧ ∀ p ∈ X.pn ++ pins,p.1 ≠ b) :
    Inv X pins σ H' { s with heap := h',gens := g',drawn := d',toks := t' } := by
  obtain ⟨m,⟨o,es,ep,ho,r⟩,_⟩ := id I.loc
  obtain ⟨sl,hL⟩ := u.any ho I.free fun z => (hch _ z).2.1 rfl
  exact I.step (ch := ch) hch (fun b o hL hb hc e n => u.keep b o e n (fun z => (List.mem_cons.mp (I.stkSub b z)).elim hL hb) hc) (fun b o _ _ hc e n => u.any e n hc) (fun b o hc e n => u.free b o e n hc) (fun b o hc e => u.there b o e hc) u.tups u.frzs u.tbls (fun m' hm => by
    obtain ⟨o',es',ep',ho',r'⟩ := hm
    rw [ho] at ho'; cases ho'
    exact ⟨_,es',ep',hL,r'⟩) hok hg
theorem Inv.turned {t' : Nat} {it : Addr} (I : Inv X pins σ H s) (k : ∀ b o,b ≠ it → s.heap.get? b = some o → h'.get? b = some o) (hn : H it = none) (hL : it ≠ X.env.locals)
    (h1 : it ∈ X.ex ∨ X.s₀.heap.objs.size ≤ it) (h2 : ∀ x c,X.env.cells.lookup x = some c → c ≠ it) (h3 : ∀ p ∈ X.pn ++ pins,p.1 ≠ it) : Inv X pins σ H { s with heap := h',toks := t' } := by
  have nit : ∀ b u,H b = some u → b ≠ it := fun b u e z => by rw [z,hn] at e; cases e
  refine I.step (g' := s.gens) (d' := s.drawn) (ch := [it]) (fun b hb => ?_) (fun b o _ _ hc e _ => k b o (fun z => hc (by simp [z])) e) (fun b o _ _ hc e _ => ⟨o.slots,k b o (fun z => hc (by simp [z])) e⟩) (fun _ _ _ _ n => n)
    (fun b o hc e => ⟨o,k b o (fun z => hc (by simp [z])) e⟩) (fun _ _ e => e) (fun _ _ _ e => e) (fun b ps e => ⟨#[],by rw [e]; simp⟩) (fun m hm => ?_) (fun b u e => ?_) I.bare
  · have e : b = it := by simpa using hb
    subst e
    exact ⟨h1,hL,h2,h3⟩
  · obtain ⟨o,es,ep,ho,r⟩ := hm
    exact ⟨o,es,ep,k _ o (Ne.symm hL) ho,r⟩
  · refine (I.hok b u e).stay (fun c v hc q => k c v ?_ q) (fun _ q => q) fun _ _ q => q
    rcases hc with z | z
    · rw [z]; exact nit b u e
    · exact nit c _ z
theorem Inv.tok (I : Inv X pins σ H s) (t : Nat) : Inv X pins σ H { s with toks := t } := I.un (h' := s.heap) (t' := t) Un.refl I.hok
theorem Inv.kept {t' : Nat} (I : Inv X pins σ H s) (k : ∀ b u,s.heap.get? b = some u → h'.get? b = some u) : Inv X pins σ H { s with heap := h',toks := t' } := I.un (Un.kept k) (I.hok.kept k)
theorem Inv.laid {a : Addr} {o : HO} {t' : Nat} (I : Inv X pins σ H s) (k : ∀ b u,s.heap.get? b = some u → h'.get? b = some u) (hp : s.heap.objs.size ≤ a) (new : ObjOk X.prog X.w (upd H a o) h' a o) :
    Inv X pins σ (upd H a o) { s with heap := h',toks := t' } := I.un (Un.laid k hp (I.hok.fresh hp)) (I.hok.laid k hp new)
theorem Inv.write {x e : Addr} {o : HO} {t' : Nat} (I : Inv X pins σ H s) (mu : Mut (H x)) (he : e = x ∨ H e = some (.own x)) (k : ∀ b u,b ≠ e → s.heap.get? b = some u → h'.get? b = some u) (heo : ∃ u,h'.get? e = some u)
    (new : ObjOk X.prog X.w (upd H x o) h' x o) : Inv X pins σ (upd H x o) { s with heap := h',toks := t' } := I.un (Un.write mu he k heo) (I.hok.write mu he k heo new)
theorem Inv.pins_of {pins' : List (Addr × Obj)} (I : Inv X pins σ H s) (h : ∀ p ∈ pins',s.heap.get? p.1 = some p.2 ∧ H p.1 = none ∧ p.1 ≠ X.env.locals ∧ p.1 ∉ X.fs ∧ ∀ v,p.2.data ≠ .cell v) : Inv X pins' σ H s :=
  ⟨I.ok,I.os,I.bare,I.base,I.loc,I.cell,I.free,I.freeC,fun p hp => (List.mem_append.mp hp).elim (fun z => I.pin p (List.mem_append_left _ z)) (h p),I.hok,I.len⟩
theorem nodup_ix {N : List Str} (hN : N.Nodup) {i j : Nat} {x : Str} (a : N[i]? = some x) (b : N[j]? = some x) : i = j := by
  obtain ⟨h1,e1⟩ := List.getElem?_eq_some_iff.mp a
  obtain ⟨h2,e2⟩ := List.getElem?_eq_some_iff.mp b
  exact (List.getElem_inj hN).mp (e1.trans e2.symm)
theorem store_ok2 {M : Model} {A : Around} {E : Value → Shared → Prop} {i : Nat} {x : Str} {v : V} {u : Value} {Q : Unit → Shared → Prop} (I : Inv X pins σ H s) (hN : X.N.Nodup) (hi : X.N[i]? = some x) (hx : Loc X.env.scope x) (r : RelV v u)
    (h : ∀ s',Inv X pins (σ.set i (some v)) H s' → (∃ a,Heap.SameBut a s.heap s'.heap ∧ (a = X.env.locals ∨ X.env.cells.lookup x = some a)) → Q () s') (hf : X.fn x = true ∨ X.env.scope.names.lookup x = some .local := by first | exact .inl rfl | exact .inr rfl | assumption) : wpAny M A (storeName X.env x u) Q E s := by
  obtain ⟨m,hn,hl⟩ := id I.loc
  have hcls : (X.env.scope.kind == .class || (X.env.scope.kind == .module && X.env.locals != X.env.globals)) = false := by rw [I.ok.kind]; rfl
  have hiσ : i < σ.length := by rw [I.len]; exact (List.getElem?_eq_some_iff.mp hi).1
  have cne := I.cne
  have tracked : ∀ {a : Addr} {h' : Heap},(∃ o,s.heap.get? a = some o ∧ H a = none) → Heap.SameBut a s.heap h' → HOk X.prog X.w H h' := fun {a h'} ha hs b ob e => by
    obtain ⟨_,_,hfree⟩ := ha
    refine (I.hok b ob e).stay (fun c w' hc q => (hs.2 c ?_).trans q) (fun _ q => q) fun _ _ q => q
    rintro rfl
    rcases hc with rfl | hc
    · rw [hfree] at e; cases e
    · rw [hfree] at hc; cases hc
  rcases hx with hk | hk
  · refine wpAny_storeName_local hk hn (fun h' hn' hs => ?_) hcls
    obtain ⟨oL,_,_,hoL,_⟩ := id hn
    refine h _ ⟨I.ok,I.os,I.bare,⟨fun b o e n hb hx => ?_,fun b o e n hb hx => ?_,I.base.free,fun b o e hx => ?_,I.base.tups,I.base.frzs,I.base.tbls⟩,⟨_,hn',fun j y v' e1 e2 e3 => ?_⟩,fun y c e => ?_,I.free,I.freeC,fun p hp => ?_,tracked ⟨oL,hoL,I.free⟩ hs,by simpa using I.len⟩ ⟨_,hs,.inl rfl⟩
    · exact (hs.2 b (Nat.ne_of_lt (Nat.lt_of_lt_of_le (Heap.lt_size e) I.ok.above))).trans (I.base.keep b o e n hb hx)
    · obtain ⟨sl,e1⟩ := I.base.slot b o e n hb hx
      exact ⟨sl,(hs.2 b (Nat.ne_of_lt (Nat.lt_of_lt_of_le (Heap.lt_size e) I.ok.above))).trans e1⟩
    · obtain ⟨o',e1⟩ := I.base.there b o e hx
      exact ⟨o',(hs.2 b (Nat.ne_of_lt (Nat.lt_of_lt_of_le (Heap.lt_size e) I.ok.above))).trans e1⟩
    · by_cases hj : j = i
      · subst hj
        rw [hi] at e1; cases e1
        rw [List.getElem?_set_self hiσ] at e2
        cases e2
        exact ⟨u,r,.inl ⟨hk,by simp⟩⟩
      · rw [List.getElem?_set_ne (Ne.symm hj)] at e2
        obtain ⟨u',r',q⟩ := hl j y v' e1 e2 e3
        refine ⟨u',r',?_⟩
        rcases q with ⟨k,e⟩ | ⟨k,c,e,z⟩
        · refine .inl ⟨k,?_⟩
          have : y ≠ x := fun e => hj (nodup_ix hN e1 (e ▸ hi))
          simp [this,e]
        · exact .inr ⟨k,c,e,z.sameBut hs (cne y c e)⟩
    · obtain ⟨w',z⟩ := I.cell y c e
      exact ⟨w',z.sameBut hs (cne y c e)⟩
    · obtain ⟨e,n,ne,nf,d⟩ := I.pin p hp
      exact ⟨(hs.2 p.1 ne).trans e,n,ne,nf,d⟩
  · have hfn : X.fn x = true := by
      rcases hf with z | z
      · exact z
      · rw [z] at hk; cases hk
    obtain ⟨c,hc⟩ := I.ok.has x (.inl hk)
    obtain ⟨w',z⟩ := I.cell x c hc
    refine wpAny_storeName_cell I.ok.kind hk hc z (fun h' hc' hs => ?_)
    obtain ⟨oc,hoc,hocd⟩ := id z
    refine h { s with heap := h' } ⟨I.ok,I.os,I.bare,⟨fun b o e n hb hx => ?_,fun b o e n hb hx => ?_,I.base.free,fun b o e hx => ?_,I.base.tups,I.base.frzs,I.base.tbls⟩,⟨m,hn.sameBut hs (Ne.symm (cne x c hc)),fun j y v' e1 e2 e3 => ?_⟩,fun y c' e => ?_,I.free,I.freeC,fun p hp => ?_,tracked ⟨oc,hoc,I.freeC x c hc⟩ hs,by simpa using I.len⟩ ⟨c,hs,.inr hc⟩
    · exact (hs.2 b (Nat.ne_of_lt (Nat.lt_of_lt_of_le (Heap.lt_size e) (I.ok.cab x c hfn hc)))).trans (I.base.keep b o e n hb hx)
    · obtain ⟨sl,e1⟩ := I.base.slot b o e n hb hx
      exact ⟨sl,(hs.2 b (Nat.ne_of_lt (Nat.lt_of_lt_of_le (Heap.lt_size e) (I.ok.cab x c hfn hc)))).trans e1⟩
    · obtain ⟨o',e1⟩ := I.base.there b o e hx
      exact ⟨o',(hs.2 b (Nat.ne_of_lt (Nat.lt_of_lt_of_le (Heap.lt_size e) (I.ok.cab x c hfn hc)))).trans e1⟩
    · by_cases hj : j = i
      · subst hj
        rw [hi] at e1; cases e1
        rw [List.getElem?_set_self hiσ] at e2
        cases e2
        exact ⟨u,r,.inr ⟨.inl hk,c,hc,hc'⟩⟩
      · rw [List.getElem?_set_ne (Ne.symm hj)] at e2
        obtain ⟨u',r',q⟩ := hl j y v' e1 e2 e3
        refine ⟨u',r',?_⟩
        rcases q with q | ⟨k,c',e,z'⟩
        · exact .inl q
        · refine .inr ⟨k,c',e,z'.sameBut hs ?_⟩
          rintro rfl
          exact hj (nodup_ix hN e1 (I.ok.inj _ _ _ e hc ▸ hi))
    · by_cases hcc : c' = c
      · subst hcc; exact ⟨_,hc'⟩
      · obtain ⟨w2,z2⟩ := I.cell y c' e
        exact ⟨w2,z2.sameBut hs hcc⟩
    · obtain ⟨e,n,ne,nf,d⟩ := I.pin p hp
      refine ⟨(hs.2 p.1 ?_).trans e,n,ne,nf,d⟩
      intro q
      rw [q,hoc] at e
      have q' : oc = p.2 := Option.some.inj e
      exact d w' (by rw [← q']; exact hocd)
theorem store_ok {M : Model} {A : Around} {E : Value → Shared → Prop} {i : Nat} {x : Str} {v : V} {u : Value} {Q : Unit → Shared → Prop} (I : Inv X pins σ H s) (hN : X.N.Nodup) (hi : X.N[i]? = some x) (hx : Loc X.env.scope x) (r : RelV v u)
    (h : ∀ s',Inv X pins (σ.set i (some v)) H s' → Q () s') (hf : X.fn x = true ∨ X.env.scope.names.lookup x = some .local := by first | exact .inl rfl | exact .inr rfl | assumption) : wpAny M A (storeName X.env x u) Q E s :=
  store_ok2 I hN hi hx r (fun s' I' _ => h s' I') hf
theorem Inv.call' {s' : Shared} {ch : List Addr} (I : Inv X pins σ H s) (ho : s'.os = s.os) (u : Un (frs X.stack) ch H H' s.heap s'.heap) (hok : HOk X.prog X.w H' s'.heap) (hg : AllBare s'.gens)
    (hch : ∀ b ∈ ch,(b ∈ X.ex ∨ X.s₀.heap.objs.size ≤ b) ∧ b ≠ X.env.locals ∧ (∀ x c,X.env.cells.lookup x = some c → c ≠ b) ∧ ∀ p ∈ X.pn ++ pins,p.1 ≠ b) : Inv X pins σ H' s' := by
  obtain ⟨h',g',d',t',o'⟩ := s'
  have e : o' = s.os := ho
  subst e
  exact I.call (g' := g') (t' := t') (d' := d') u hok hg hch
end
abbrev XK := Value → Option Addr → Hp → Prop
abbrev St := List (Option V)
abbrev VK := V → Hp → Prop
abbrev TE := St → Hp → VK → Prop
abbrev TT := St → Hp → (Bool → Hp → Prop) → Prop
abbrev TA := St → Hp → (List V → Hp → Prop) → Prop
structure Ends where
  nx : St → Hp → Prop
  rt : VK
  bk : St → Hp → Prop := fun _ _ => False
  ct : St → Hp → Prop := fun _ _ => False
abbrev TS := Ends → St → Hp → Prop
def EP (X : Cx) (pins : List (Addr × Obj)) (σ : St) (Q : VK) (u : Value) (s' : Shared) : Prop := ∃ v H',Inv X pins σ H' s' ∧ RelV v u ∧ Q v H'
def TP (X : Cx) (pins : List (Addr × Obj)) (σ : St) (Q : Bool → Hp → Prop) (b : Bool) (s' : Shared) : Prop := ∃ H',Inv X pins σ H' s' ∧ Q b H'
def AP (X : Cx) (pins : List (Addr × Obj)) (σ : St) (Q : List V → Hp → Prop) (us : List Value) (s' : Shared) : Prop := ∃ vs H',Inv X pins σ H' s' ∧ Vals vs us ∧ Q vs H'
def SP (X : Cx) (pins : List (Addr × Obj)) (D : Ends) (f : Flow) (s' : Shared) : Prop :=
  match f with
  | .next => ∃ σ' H',Inv X pins σ' H' s' ∧ D.nx σ' H'
  | .brk => ∃ σ' H',Inv X pins σ' H' s' ∧ D.bk σ' H'
  | .cont => ∃ σ' H',Inv X pins σ' H' s' ∧ D.ct σ' H'
  | .ret u => ∃ v σ' H',Inv X pins σ' H' s' ∧ RelV v u ∧ D.rt v H'
def PE (X : Cx) (e : Expr) (t : TE) : Prop :=
  ∀ (pins : List (Addr × Obj)) (s : Shared) (σ : St) (H : Hp) (Q : VK),Inv X pins σ H s → t σ H Q → wpAny (model X.prog X.w) X.A (eval e X.env) (EP X pins σ Q) X.xe s
def PT (X : Cx) (e : Expr) (t : TT) : Prop :=
  ∀ (pins : List (Addr × Obj)) (s : Shared) (σ : St) (H : Hp) (Q : Bool → Hp → Prop),Inv X pins σ H s → t σ H Q → wpAny (model X.prog X.w) X.A (isTrue e X.env (eval e X.env)) (TP X pins σ Q) X.xe s
def PW (X : Cx) (e : Expr) (t : TT) : Prop :=
  ∀ (whole : Sem Value) (pins : List (Addr × Obj)) (s : Shared) (σ : St) (H : Hp) (Q : Bool → Hp → Prop),Inv X pins σ H s → t σ H Q → wpAny (model X.prog X.w) X.A (isTrue e X.env whole) (TP X pins σ Q) X.xe s
theorem PW.pt {X : Cx} {e : Expr} {t : TT} (h : PW X e t) : PT X e t := h _
def PA (X : Cx) (es : List Expr) (t : TA) : Prop :=
  ∀ (pos : Pos) (pins : List (Addr × Obj)) (s : Shared) (σ : St) (H : Hp) (Q : List V → Hp → Prop),Inv X pins σ H s → t σ H Q → wpAny (model X.prog X.w) X.A (spliced (backTo pos (starEach es X.env))) (AP X pins σ Q) X.xe s
def PS (X : Cx) (st : Stmt) (t : TS) : Prop :=
  ∀ (pins : List (Addr × Obj)) (s : Shared) (σ : St) (H : Hp) (D : Ends),Inv X pins σ H s → t D σ H → wpAny (model X.prog X.w) X.A (exec st X.env) (SP X pins D) X.xe s
def PSs (X : Cx) (st : List Stmt) (t : TS) : Prop :=
  ∀ (pins : List (Addr × Obj)) (s : Shared) (σ : St) (H : Hp) (D : Ends),Inv X pins σ H s → t D σ H → wpAny (model X.prog X.w) X.A (execs st X.env) (SP X pins D) X.xe s
theorem thn {α : Type} {t : Sem α} {Q Q' : α → Shared → Prop} {M : Model} {A : Around} {E : Value → Shared → Prop} {s : Shared} (h : wpAny M A t Q E s) (hQ : ∀ a s,Q a s → Q' a s) : wpAny M A t Q' E s := wpAny_mono h hQ fun _ _ x => x
end L2
namespace L2
open PySem PySem.Spec PyProof.Rows
section
variable {X : Cx}
inductive tVar (i : Nat) (σ : St) (H : Hp) (Q : VK) : Prop
  | mk (v : V) (e : σ[i]? = some (some v)) (q : Q v H) : tVar i σ H Q
def tC (v : V) : TE := fun _ H Q => Q v H
theorem pe_var {i : Nat} {x : Str} {pos : Pos} (hN : X.N[i]? = some x) (hv : Vis X.env.scope x) (hd : (x == ("__debug__" : Str)) = false := by decide) (hcd : (x == ("__classdict__" : Str)) = false := by decide) : PE X (.Name x pos) (tVar i) := by
  intro pins s σ H Q I h
  obtain ⟨v,e,h⟩ := h
  obtain ⟨m,hn,hl⟩ := I.loc
  obtain ⟨u,r,l⟩ := hl i x v hN e hv
  have fin : EP X pins σ Q u s := ⟨v,H,I,r,h⟩
  rcases l with ⟨hk,hm⟩ | ⟨hk,c,hc,hcell⟩
  · exact wpAny_Name (wpAny_loadName_local I.ok.kind hk hn hm fin) hd
  · rcases hk with hk | hk
    · exact wpAny_Name (wpAny_loadName_cell I.ok.kind hk hc hcell fin) hd
    · exact wpAny_Name (wpAny_loadName_free I.ok.kind hk hc hcell fin hcd) hd
theorem pe_int {i j pos} : PE X (.Constant (.int i) j pos) (tC (.int i)) := fun _ _ _ H _ I h => wpAny_Constant_int ⟨.int i,H,I.tok _,⟨_,rfl⟩,h⟩
theorem pe_bl {b j pos} : PE X (.Constant (.bool b) j pos) (tC (.bl b)) := fun _ _ _ H _ I h => Constant_bool ⟨.bl b,H,I,rfl,h⟩
theorem pe_str {x j pos} : PE X (.Constant (.str x) j pos) (tC (.str x)) := fun _ _ _ H _ I h => Calls.Constant_str ⟨.str x,H,I.tok _,⟨_,rfl⟩,h⟩
def Gl (X : Cx) (x : Str) : Prop := X.env.kindOf x = some .globalImplicit
theorem ld_glob {E : Value → Shared → Prop} {pins : List (Addr × Obj)} {s : Shared} {σ : St} {H : Hp} {x : Str} {u : Value} {pos : Pos} {Q : Value → Shared → Prop} (I : Inv X pins σ H s) (hg : Gl X x) (hm : X.mg x = some u) (h : Q u s)
    (hd : (x == ("__debug__" : Str)) = false := by decide) : wpAny (model X.prog X.w) X.A (eval (.Name x pos) X.env) Q E s :=
  Calls.Name_function_global I.ok.kind hg (Calls.loadGlobal_global (by rw [I.ok.glob]; exact I.mod.glob.keeps I.bk) hm h) hd
theorem ld_blt {E : Value → Shared → Prop} {pins : List (Addr × Obj)} {s : Shared} {σ : St} {H : Hp} {x : Str} {u : Value} {pos : Pos} {Q : Value → Shared → Prop} (I : Inv X pins σ H s) (hg : Gl X x) (hm : X.mg x = none) (hv : bootBuiltins x = some u) (h : Q u s)
    (hn : x ≠ "__name__" := by decide) (hd : (x == ("__debug__" : Str)) = false := by decide) : wpAny (model X.prog X.w) X.A (eval (.Name x pos) X.env) Q E s := by
  obtain ⟨mb,h1,h2⟩ := I.mod.blt
  exact Calls.Name_function_global I.ok.kind hg (Calls.loadGlobal_builtin (by rw [I.ok.glob]; exact I.mod.glob.keeps I.bk) hm (by rw [I.ok.blt]; exact h1.keeps I.bk) ((h2 x hn).trans hv) h) hd
theorem pe_glob {x : Str} {v : V} {u : Value} {pos : Pos} (hg : Gl X x) (hm : X.mg x = some u) (r : RelV v u) (hd : (x == ("__debug__" : Str)) = false := by decide) : PE X (.Name x pos) (tC v) :=
  fun _ _ _ H _ I h => ld_glob I hg hm ⟨v,H,I,r,h⟩ hd
theorem pe_bltn {x : Str} {v : V} {u : Value} {pos : Pos} (hg : Gl X x) (hm : X.mg x = none) (hv : bootBuiltins x = some u) (r : RelV v u) (hn : x ≠ "__name__" := by decide) (hd : (x == ("__debug__" : Str)) = false := by decide) : PE X (.Name x pos) (tC v) :=
  fun _ _ _ H _ I h => ld_blt I hg hm hv ⟨v,H,I,r,h⟩ hn hd
variable {a b : Expr} {ta tb : TE} {pos : Pos}
def tB (t : TE) : TT := fun σ H Q => t σ H fun x H1 => ∃ c,x = .bl c ∧ Q c H1
theorem pt_val {e : Expr} {t : TE} (h : PE X e t) (he : ∀ whole,isTrue e X.env whole = (do let v ← whole; standAt e.pos; holding [v] (truthy v)) := by intro _; rfl) : PT X e (tB t) := by
  intro pins s σ H Q I hw
  refine isTrue_plain (thn (h pins s σ H _ I hw) fun v s1 ⟨x,H1,I1,r1,q1⟩ => ?_) (he _)
  obtain ⟨d,rfl,q⟩ := q1
  cases r1
  exact wpAny_truthy_bool ⟨H1,I1,q⟩
variable {tA tB' : TT} {rest : List Expr}
def tAnd (t u : TT) : TT := fun σ H Q => t σ H fun c H1 => if c = true then u σ H1 Q else Q false H1
def tOr (t u : TT) : TT := fun σ H Q => t σ H fun c H1 => if c = true then Q true H1 else u σ H1 Q
def tNot (t : TT) : TT := fun σ H Q => t σ H fun c H1 => Q (!c) H1
theorem pw_and1 (ha : PT X a tA) : PW X (.BoolOp .And [a] pos) tA := by
  intro wh pins s σ H Q I h
  refine isTrue_and (thn (ha pins s σ H Q I h) fun c s1 e => ?_)
  cases c with
  | true => exact isTrue_and_nil e
  | false => exact e
theorem pw_or1 (ha : PT X a tA) : PW X (.BoolOp .Or [a] pos) tA := by
  intro wh pins s σ H Q I h
  refine isTrue_or (thn (ha pins s σ H Q I h) fun c s1 e => ?_)
  cases c with
  | false => exact isTrue_or_nil e
  | true => exact e
theorem pw_and (ha : PT X a tA) (hb : PW X (.BoolOp .And (b :: rest) pos) tB') : PW X (.BoolOp .And (a :: b :: rest) pos) (tAnd tA tB') := by
  intro wh pins s σ H Q I h
  refine isTrue_and (thn (ha pins s σ H _ I h) fun c s1 ⟨H1,I1,q1⟩ => ?_)
  cases c with
  | true => exact hb wh pins s1 σ H1 Q I1 q1
  | false => exact ⟨H1,I1,q1⟩
theorem pw_or (ha : PT X a tA) (hb : PW X (.BoolOp .Or (b :: rest) pos) tB') : PW X (.BoolOp .Or (a :: b :: rest) pos) (tOr tA tB') := by
  intro wh pins s σ H Q I h
  refine isTrue_or (thn (ha pins s σ H _ I h) fun c s1 ⟨H1,I1,q1⟩ => ?_)
  cases c with
  | true => exact ⟨H1,I1,q1⟩
  | false => exact hb wh pins s1 σ H1 Q I1 q1
theorem pt_not (ha : PT X a tA) : PT X (.UnaryOp .Not a pos) (tNot tA) := by
  intro pins s σ H Q I h
  exact isTrue_not (ha pins s σ H (fun c H1 => Q (!c) H1) I h)
def tAndV (ta tb : TE) : TE := fun σ H Q => ta σ H fun x H1 => ∃ c,x = .bl c ∧ if c = true then tb σ H1 Q else Q (.bl false) H1
def tOrV (ta tb : TE) : TE := fun σ H Q => ta σ H fun x H1 => ∃ c,x = .bl c ∧ if c = true then Q (.bl true) H1 else tb σ H1 Q
def tNotV (ta : TE) : TE := fun σ H Q => ta σ H fun x H1 => ∃ c,x = .bl c ∧ Q (.bl (!c)) H1
theorem pe_one {op} {t : TE} (h : PE X a t) : PE X (.BoolOp op [a] pos) t := fun pins s σ H Q I hw => BoolOp_one (h pins s σ H Q I hw)
theorem pe_and (ha : PE X a ta) (hb : PE X (.BoolOp .And (b :: rest) pos) tb) : PE X (.BoolOp .And (a :: b :: rest) pos) (tAndV ta tb) := by
  intro pins s σ H Q I h
  refine BoolOp_and (thn (ha pins s σ H _ I h) fun v s1 ⟨x,H1,I1,r1,q1⟩ => ?_)
  obtain ⟨c,rfl,q1⟩ := q1
  cases r1
  refine wpAny_truthy_bool ?_
  cases c with
  | true => exact hb pins s1 σ H1 Q I1 q1
  | false => exact ⟨.bl false,H1,I1,rfl,q1⟩
theorem pe_or (ha : PE X a ta) (hb : PE X (.BoolOp .Or (b :: rest) pos) tb) : PE X (.BoolOp .Or (a :: b :: rest) pos) (tOrV ta tb) := by
  intro pins s σ H Q I h
  refine BoolOp_or (thn (ha pins s σ H _ I h) fun v s1 ⟨x,H1,I1,r1,q1⟩ => ?_)
  obtain ⟨c,rfl,q1⟩ := q1
  cases r1
  refine wpAny_truthy_bool ?_
  cases c with
  | false => exact hb pins s1 σ H1 Q I1 q1
  | true => exact ⟨.bl true,H1,I1,rfl,q1⟩
theorem pe_not (ha : PE X a ta) : PE X (.UnaryOp .Not a pos) (tNotV ta) := by
  intro pins s σ H Q I h
  refine UnaryOp_ (thn (ha pins s σ H _ I h) fun v s1 ⟨x,H1,I1,r1,q1⟩ => ?_)
  obtain ⟨c,rfl,q1⟩ := q1
  cases r1
  exact not_of (wpAny_truthy_bool ⟨.bl (!c),H1,I1,rfl,q1⟩)
end
end L2
namespace L2
open PySem PySem.Spec PyProof.Rows
def SqL (K : PySem.W.Frag) (H : Hp) (a : Addr) (xs : List V) : Prop :=
  Rd H a (.lst xs) ∨
    ∃ (o : Obj) (its : Array Value) (n : Nat),K.lookup a = some o ∧ o.cls = .type "list" ∧ o.dict = none ∧ o.data = .seq its n ∧ its.size ≤ sizeLine ∧ Vals xs its.toList
def SqT (K : PySem.W.Frag) (H : Hp) (a : Addr) (xs : List V) : Prop :=
  Rd H a (.tup xs) ∨
    ∃ (o : Obj) (its : Array Value) (n : Nat),K.lookup a = some o ∧ o.cls = .type "tuple" ∧ o.data = .seq its n ∧ its.size ≤ sizeLine ∧ Vals xs its.toList
def absV : Value → Option V
  | .none => some .non
  | .bool b => some (.bl b)
  | .int i _ => some (.int i)
  | .str x _ => some (.str x)
  | .bytes b _ => some (.byt b)
  | .float b _ => some (.flt b)
  | .ref a => some (.ref a)
  | .type n => some (.ty n)
  | _ => none
theorem RelV.abs {x : V} {u : Value} (r : RelV x u) : absV u = some x := by
  cases x with
  | non => cases r; rfl
  | bl _ => cases r; rfl
  | int _ => obtain ⟨t,rfl⟩ := r; rfl
  | str _ => obtain ⟨t,rfl⟩ := r; rfl
  | byt _ => obtain ⟨t,rfl⟩ := r; rfl
  | flt _ => obtain ⟨t,rfl⟩ := r; rfl
  | ref _ => cases r; rfl
  | ty _ => cases r; rfl
theorem RelV.inj {x y : V} {u : Value} (r : RelV x u) (q : RelV y u) : x = y := Option.some.inj (r.abs.symm.trans q.abs)
theorem Vals.inj : ∀ {xs ys : List V} {us : List Value},Vals xs us → Vals ys us → xs = ys
  | _,_,_,.nil,.nil => rfl
  | _,_,_,.cons r t,.cons r' t' => by rw [r.inj r',Vals.inj t t']
section
variable {X : Cx} {pins : List (Addr × Obj)} {σ : St} {H : Hp} {s : Shared} {a : Addr} {xs ys : List V}
theorem SqL.of {K : PySem.W.Frag} (h : H a = some (.lst xs)) : SqL K H a xs := .inl (.inl h)
theorem SqT.of {K : PySem.W.Frag} (h : H a = some (.tup xs)) : SqT K H a xs := .inl (.inl h)
theorem Inv.list (I : Inv X pins σ H s) (h : SqL X.K H a xs) : ∃ its : List Value,Vals xs its ∧ PlainL s.heap a its.toArray ∧ xs.length ≤ sizeLine := by
  rcases h with h | ⟨o,its,n,hk,hc,hd,hs,hz,r⟩
  · obtain ⟨z,its,n,r,e⟩ := h.ok I.hok
    exact ⟨its,r,⟨_,n,e,rfl,rfl,rfl⟩,z⟩
  · refine ⟨its.toList,r,⟨o,n,I.kIn a o hk,hc,hd,by simpa using hs⟩,?_⟩
    have e := r.length
    simp only [Array.length_toList] at e
    omega
theorem Inv.tuple (I : Inv X pins σ H s) (h : SqT X.K H a xs) : ∃ its : List Value,Vals xs its ∧ IsTup s.heap a its.toArray ∧ xs.length ≤ sizeLine := by
  rcases h with h | ⟨o,its,n,hk,hc,hs,hz,r⟩
  · obtain ⟨z,its,r,p⟩ := h.ok I.hok
    exact ⟨its,r,p,z⟩
  · refine ⟨its.toList,r,⟨o,I.kIn a o hk,hc,n,by simpa using hs⟩,?_⟩
    have e := r.length
    simp only [Array.length_toList] at e
    omega
theorem Inv.list_inj (I : Inv X pins σ H s) (h : SqL X.K H a xs) (h' : SqL X.K H a ys) : xs = ys := by
  obtain ⟨its,r,⟨o,n,e,_,_,d⟩,_⟩ := I.list h
  obtain ⟨its',r',⟨o',n',e',_,_,d'⟩,_⟩ := I.list h'
  rw [e] at e'; cases e'
  rw [d] at d'
  injection d' with d1 _
  have : its = its' := by simpa using congrArg Array.toList d1
  subst this
  exact r.inj r'
end
abbrev Cx.wish (X : Cx) (E : Value → Shared → Prop) : Cx := { X with xe := E }
abbrev Cx.nox (X : Cx) : Cx := X.wish fun _ _ => False
theorem Cx.Ok.wish {X : Cx} (ok : X.Ok) (E : Value → Shared → Prop) : (X.wish E).Ok :=
  ⟨ok.mod,ok.kind,ok.glob,ok.blt,ok.above,ok.inj,ok.has,ok.cab,ok.hd,ok.frames,ok.stk,ok.exf,ok.bs,ok.bsz,ok.noex,ok.exfs,ok.funs,ok.frf⟩
theorem Cx.Ok.unwish {X : Cx} {E : Value → Shared → Prop} (ok : (X.wish E).Ok) : X.Ok :=
  ⟨ok.mod,ok.kind,ok.glob,ok.blt,ok.above,ok.inj,ok.has,ok.cab,ok.hd,ok.frames,ok.stk,ok.exf,ok.bs,ok.bsz,ok.noex,ok.exfs,ok.funs,ok.frf⟩
section
variable {X : Cx} {pins : List (Addr × Obj)} {σ : St} {H : Hp} {s : Shared} {E : Value → Shared → Prop}
theorem Inv.wish (I : Inv X pins σ H s) (E : Value → Shared → Prop) : Inv (X.wish E) pins σ H s := ⟨I.ok.wish E,I.os,I.bare,I.base,I.loc,I.cell,I.free,I.freeC,I.pin,I.hok,I.len⟩
theorem Inv.unwish (I : Inv (X.wish E) pins σ H s) : Inv X pins σ H s := ⟨I.ok.unwish,I.os,I.bare,I.base,I.loc,I.cell,I.free,I.freeC,I.pin,I.hok,I.len⟩
theorem SP.unwish {D : Ends} {f : Flow} {s' : Shared} (h : SP (X.wish E) pins D f s') : SP X pins D f s' := by
  cases f with
  | next => obtain ⟨σ',H',I,q⟩ := h; exact ⟨σ',H',I.unwish,q⟩
  | brk => obtain ⟨σ',H',I,q⟩ := h; exact ⟨σ',H',I.unwish,q⟩
  | cont => obtain ⟨σ',H',I,q⟩ := h; exact ⟨σ',H',I.unwish,q⟩
  | ret u => obtain ⟨v,σ',H',I,r,q⟩ := h; exact ⟨v,σ',H',I.unwish,r,q⟩
theorem PSs.nox {st : List Stmt} {t : TS} (h : PSs X.nox st t) : PSs X st t := fun pins s σ H D I hw =>
  wpAny_mono (h pins s σ H D (I.wish _) hw) (fun _ _ q => q.unwish) fun _ _ z => False.elim z
end
section
variable {X : Cx} {st : Stmt} {rest : List Stmt} {t u : TS} {e : Expr} {te : TE} {pos : Pos}
def tNext : TS := fun D σ H => D.nx σ H
def tSeq (t u : TS) : TS := fun D σ H => t { D with nx := u D } σ H
theorem pss_nil : PSs X [] tNext := fun _ _ σ H _ I h => wpAny_execs_nil ⟨σ,H,I,h⟩
theorem pss_cons (h1 : PS X st t) (h2 : PSs X rest u) : PSs X (st :: rest) (tSeq t u) := by
  intro pins s σ H D I h
  refine wpAny_execs_cons (thn (h1 pins s σ H { D with nx := u D } I h) fun f s1 q => ?_)
  cases f with
  | next =>
    obtain ⟨σ',H',I',q⟩ := q
    exact h2 pins s1 σ' H' D I' q
  | ret v => exact q
  | brk => exact q
  | cont => exact q
theorem pss_one (h1 : PS X st t) : PSs X [st] t := by
  intro pins s σ H D I h
  refine wpAny_execs_cons (thn (h1 pins s σ H D I h) fun f s1 q => ?_)
  cases f with
  | next => exact wpAny_execs_nil q
  | ret v => exact q
  | brk => exact q
  | cont => exact q
theorem Inv.quiet {pins : List (Addr × Obj)} {σ : St} {H : Hp} {s : Shared} (I : Inv X pins σ H s) : interactive X.env = false := by simp [interactive,I.ok.kind]
def tDrop (te : TE) : TS := fun D σ H => te σ H fun _ H1 => D.nx σ H1
theorem ps_expr (he : PE X e te) (hs : swapsWith e none pos.line X.env = pure false := by rfl) : PS X (.Expr e pos) (tDrop te) := by
  intro pins s σ H D I h
  exact wpAny_Expr_any (thn (he pins s σ H _ I h) fun v s1 ⟨x,H1,I1,r1,q1⟩ => ⟨σ,H1,I1,q1⟩) I.quiet hs
def tRet (te : TE) : TS := fun D σ H => te σ H D.rt
theorem ps_ret (he : PE X e te) : PS X (.Return (some e) pos) (tRet te) := by
  intro pins s σ H D I h
  exact wpAny_Return_some (thn (he pins s σ H _ I h) fun v s1 ⟨x,H1,I1,r1,q1⟩ => ⟨x,σ,H1,I1,r1,q1⟩)
def tIfS (c : TT) (t u : TS) : TS := fun D σ H => c σ H fun b H1 => if b = true then t D σ H1 else u D σ H1
theorem ps_if {c : Expr} {a b : List Stmt} {tc : TT} (hc : PT X c tc) (ha : PSs X a t) (hb : PSs X b u) : PS X (.If c a b pos) (tIfS tc t u) := by
  intro pins s σ H D I h
  refine wpAny_If (thn (hc pins s σ H _ I h) fun d s1 ⟨H1,I1,q1⟩ => ?_)
  cases d with
  | true => exact ha pins s1 σ H1 D I1 q1
  | false => exact hb pins s1 σ H1 D I1 q1
end
abbrev TG := V → St → Hp → (St → Hp → Prop) → Prop
abbrev TGs := List V → St → Hp → (St → Hp → Prop) → Prop
def PG (X : Cx) (target : Expr) (t : TG) : Prop :=
  ∀ (pins : List (Addr × Obj)) (s : Shared) (σ : St) (H : Hp) (v : V) (u : Value) (Q : St → Hp → Prop),Inv X pins σ H s → RelV v u → t v σ H Q →
    wpAny (model X.prog X.w) X.A (assign target X.env u) (fun _ s' => ∃ σ' H',Inv X pins σ' H' s' ∧ Q σ' H') X.xe s
def PGs (X : Cx) (ts : List Expr) (t : TGs) : Prop :=
  ∀ (pins : List (Addr × Obj)) (s : Shared) (σ : St) (H : Hp) (vs : List V) (us : List Value) (Q : St → Hp → Prop),Inv X pins σ H s → Vals vs us → t vs σ H Q →
    wpAny (model X.prog X.w) X.A (assignInOrder ((assignEach ts X.env).map (·.2)) us) (fun _ s' => ∃ σ' H',Inv X pins σ' H' s' ∧ Q σ' H') X.xe s
abbrev TSet := V → V → V → Hp → (Hp → Prop) → Prop
def PSet (X : Cx) (t : TSet) : Prop :=
  ∀ (pins : List (Addr × Obj)) (s : Shared) (σ : St) (H : Hp) (o i v : V) (ov iv u : Value) (Q : Hp → Prop),Inv X pins σ H s → RelV o ov → RelV i iv → RelV v u → t o i v H Q →
    wpAny (model X.prog X.w) X.A (setItem ov iv u) (fun _ s' => ∃ H',Inv X pins σ H' s' ∧ Q H') X.xe s
section
variable {X : Cx} {pos : Pos}
def gName (i : Nat) : TG := fun v σ H Q => Q (σ.set i (some v)) H
theorem pg_name {i : Nat} {x : Str} (hN : X.N.Nodup) (hi : X.N[i]? = some x) (hx : Loc X.env.scope x) (hf : X.fn x = true ∨ X.env.scope.names.lookup x = some .local := by first | exact .inl rfl | exact .inr rfl | assumption) : PG X (.Name x pos) (gName i) := by
  intro pins s σ H v u Q I r h
  exact wpAny_assign_Name (store_ok I hN hi hx r (fun s' I' => ⟨_,H,I',h⟩) hf)
inductive gNil (vs : List V) (σ : St) (H : Hp) (Q : St → Hp → Prop) : Prop
  | mk (e : vs = []) (q : Q σ H) : gNil vs σ H Q
inductive gCons (t : TG) (u : TGs) (vs : List V) (σ : St) (H : Hp) (Q : St → Hp → Prop) : Prop
  | mk (v : V) (r : List V) (e : vs = v :: r) (q : t v σ H fun σ' H' => u r σ' H' Q) : gCons t u vs σ H Q
theorem pgs_nil : PGs X [] gNil := by
  intro pins s σ H vs us Q I r h
  obtain ⟨e,h⟩ := h
  subst e
  cases r
  exact assignInOrder_nil ⟨σ,H,I,h⟩
theorem pgs_cons {e : Expr} {es : List Expr} {t : TG} {u : TGs} (h1 : PG X e t) (h2 : PGs X es u)
    (hs : (assignEach (e :: es) X.env).map (·.2) = assign e X.env :: (assignEach es X.env).map (·.2) := by rfl) : PGs X (e :: es) (gCons t u) := by
  intro pins s σ H vs us Q I r h
  obtain ⟨v,vr,e1,h⟩ := h
  subst e1
  cases r with
  | cons r rr =>
    rw [hs]
    refine assignInOrder_cons (thn (h1 pins s σ H _ _ _ I r h) fun _ s1 ⟨σ1,H1,I1,q1⟩ => ?_)
    exact h2 pins s1 σ1 H1 _ _ Q I1 rr q1
inductive gTup (K : PySem.W.Frag) (n : Nat) (t : TGs) (v : V) (σ : St) (H : Hp) (Q : St → Hp → Prop) : Prop
  | mk (a : Addr) (xs : List V) (e : v = .ref a) (s : SqT K H a xs) (l : xs.length = n) (q : t xs σ H Q) : gTup K n t v σ H Q
theorem pg_tup {es : List Expr} {k : Nat} {t : TGs} {n : Nat} (hc : X.calm = true) (h : PGs X es t)
    (hn : (assignEach es X.env).length = n := by rfl) (hst : (assignEach es X.env).findIdx? (·.1) = none := by rfl) : PG X (.Tuple es k pos) (gTup X.K n t) := by
  intro pins s σ H v u Q I r hw
  obtain ⟨a,xs,e1,hq,hl,hw⟩ := hw
  subst e1
  cases r
  obtain ⟨its,rv,ht,hz⟩ := I.tuple hq
  refine assign_Tuple_tuple (I.ok.hd hc) ht (by simp [hn,← hl,rv.length]) hst fun h' hx => ?_
  have I1 : Inv X pins σ H { s with heap := h' } := I.kept (t' := s.toks) fun b o e => hx b o (Nat.ne_of_lt (Heap.lt_size e)) e
  exact h pins _ σ H xs _ Q I1 (by simpa using rv) hw
def gSub (to ti : TE) (t : TSet) : TG := fun v σ H Q => to σ H fun o H1 => ti σ H1 fun i H2 => t o i v H2 fun H3 => Q σ H3
theorem pg_sub {o i : Expr} {to ti : TE} {t : TSet} (ho : PE X o to) (hi : PE X i ti) (hs : PSet X t)
    (ha : ∀ v,assign (.Subscript o i pos) X.env v = (do
      let ov ← holding [v] (eval o X.env)
      let iv ← holding [v,ov] (eval i X.env)
      standAt pos
      holding [v,ov,iv] (setItem ov iv v)
      release [v,ov,iv] []) := by intro _; rfl) : PG X (.Subscript o i pos) (gSub to ti t) := by
  intro pins s σ H v u Q I r h
  rw [ha]
  refine wpAny_bind (wpAny_holding (thn (ho pins s σ H _ I h) fun ov s1 ⟨x,H1,I1,r1,q1⟩ => ?_))
  refine wpAny_bind (wpAny_holding (thn (hi pins s1 σ H1 _ I1 q1) fun iv s2 ⟨y,H2,I2,r2,q2⟩ => ?_))
  refine wpAny_bind (wpAny_standAt (wpAny_bind (wpAny_holding (thn (hs pins s2 σ H2 x y v ov iv u _ I2 r1 r2 r q2) fun _ s3 ⟨H3,I3,q3⟩ => ?_))))
  exact wpAny_release ⟨σ,H3,I3,q3⟩
def tAsg (te : TE) (g : TG) : TS := fun D σ H => te σ H fun x H1 => g x σ H1 D.nx
theorem ps_asg {tg e : Expr} {te : TE} {g : TG} (he : PE X e te) (hg : PG X tg g) (hs : swapsWithSole [tg] e pos.line X.env = pure false := by rfl) (hw : swappedStores [tg] e X.env = pure none := by rfl)
    (h1 : (assignEach [tg] X.env).map (·.2) = [assign tg X.env] := by rfl) : PS X (.Assign [tg] e pos) (tAsg te g) := by
  intro pins s σ H D I h
  refine wpAny_Assign_stores (thn (he pins s σ H _ I h) fun v s1 ⟨x,H1,I1,r1,q1⟩ => ?_) hs hw
  rw [h1]
  exact thn (hg pins s1 σ H1 x v _ I1 r1 q1) fun _ s2 q => q
theorem ps_set {i : Nat} {x : Str} {e : Expr} {te : TE} {pos' : Pos} (hN : X.N.Nodup) (hi : X.N[i]? = some x) (hx : Loc X.env.scope x) (he : PE X e te) (hs : swapsWith e (some (.Name x pos')) pos.line X.env = pure false := by rfl) (hf : X.fn x = true ∨ X.env.scope.names.lookup x = some .local := by first | exact .inl rfl | exact .inr rfl | assumption) :
    PS X (.Assign [.Name x pos'] e pos) (tAsg te (gName i)) := by
  intro pins s σ H D I h
  refine wpAny_Assign_Name (thn (he pins s σ H _ I h) fun v s1 ⟨y,H1,I1,r1,q1⟩ => ?_) hs
  exact store_ok I1 hN hi hx r1 (fun s2 I2 => ⟨_,H1,I2,q1⟩) hf
def tPar (i j : Nat) (ta : TA) : TS := fun D σ H => ta σ H fun vs H1 => ∃ v w,vs = [v,w] ∧ D.nx ((σ.set i (some v)).set j (some w)) H1
theorem ps_par {i j : Nat} {x y : Str} {a b : Expr} {ta : TA} {px py pt : Pos} {kt k2 pt2} (hc : X.calm = true) (hN : X.N.Nodup) (hi : X.N[i]? = some x) (hj : X.N[j]? = some y) (hij : i ≠ j)
    (hx : X.env.scope.names.lookup x = some .local) (hy : X.env.scope.names.lookup y = some .local) (ha : PA X [a,b] ta)
    (hw : swappedStores [.Tuple [.Name x px,.Name y py] kt pt] (.Tuple [a,b] k2 pt2) X.env = pure (some [x,y]))
    (hs : swapsWithSole [.Tuple [.Name x px,.Name y py] kt pt] (.Tuple [a,b] k2 pt2) pos.line X.env = pure false := by rfl) :
    PS X (.Assign [.Tuple [.Name x px,.Name y py] kt pt] (.Tuple [a,b] k2 pt2) pos) (tPar i j ta) := by
  intro pins s σ H D I h
  rw [exec_Assign_arm]
  refine wpAny_bind (wpAny_standAt ?_)
  rw [hs]
  refine wpAny_bind (wpAny_pure ?_)
  rw [if_neg (by decide)]
  refine wpAny_bind (Tuple_ (thn (ha _ pins s σ H _ I h) fun us s1 ⟨vs,H1,I1,r1,q1⟩ => ?_))
  obtain ⟨v,w,e1,q1⟩ := q1
  subst e1
  obtain ⟨u1,u2,rfl,rv,rw'⟩ : ∃ u1 u2,us = [u1,u2] ∧ RelV v u1 ∧ RelV w u2 := by
    cases r1 with
    | cons p q =>
      cases q with
      | cons p' q' =>
        cases q'
        exact ⟨_,_,rfl,p,p'⟩
  refine wpAny_newObj_type ?_ (by show 2 ≤ sizeLine; decide)
  have I2 : Inv X pins σ H1 { s1 with heap := s1.heap.push { cls := .type "tuple",data := .seq [u1,u2].toArray } } := I1.kept (t' := s1.toks) fun b o e => Heap.get?_push_of_some _ e
  rw [hw]
  refine wpAny_bind (wpAny_pure ?_)
  show wpAny (model X.prog X.w) X.A (do rule "assign.swapped-stores"; let items ← unpackItems (.ref s1.heap.objs.size) 2 none; assignInOrder [fun v => bindName X.env y v,fun v => bindName X.env x v] items.reverse; pure Flow.next) _ _ _
  refine wpAny_bind (wpAny_rule (wpAny_bind (unpackItems_tuple (items := #[u1,u2]) (I.ok.hd hc) (IsTup.new s1.heap _) fun h' hx' => ?_)))
  have I3 := I2.kept (h' := h') (t' := s1.toks) fun b o e => hx' b o (Nat.ne_of_lt (Heap.lt_size e)) e
  show wpAny _ _ (assignInOrder [fun v => bindName X.env y v,fun v => bindName X.env x v] [u2,u1] >>= fun _ => pure Flow.next) _ _ _
  refine wpAny_bind (assignInOrder_cons (wpAny_bindName (store_ok I3 hN hj (.inl hy) rw' (fun s2 I4 => ?_) (.inr hy))))
  refine assignInOrder_cons (wpAny_bindName (store_ok I4 hN hi (.inl hx) rv (fun s3 I5 => assignInOrder_nil (wpAny_pure ?_)) (.inr hx)))
  rw [List.set_comm _ _ (Ne.symm hij)] at I5
  exact ⟨_,H1,I5,q1⟩
end
section
variable {X : Cx} {pos : Pos}
def tWhile (c : TT) (tb : TS) : TS := fun D σ H => ∃ W : Nat → St → Hp → Prop,(∃ m,W m σ H) ∧ ∀ m σ H,W m σ H →
  c σ H fun b H1 => if b = true then ∃ N : St → Hp → Prop,(∀ σ' H',N σ' H' → ∃ m',m' < m ∧ W m' σ' H') ∧ tb { D with nx := N,ct := N,bk := D.nx } σ H1 else D.nx σ H1
theorem ps_while {c : Expr} {body : List Stmt} {tc : TT} {tb : TS} (hp : PassesOwn (model X.prog X.w) X.A X.env X.xe) (hc : PT X c tc) (hb : PSs X body tb) : PS X (.While c body [] pos) (tWhile tc tb) := by
  intro pins s σ H D I h
  obtain ⟨W,⟨m0,w0⟩,turn⟩ := h
  refine wpAny_While (codeAny_whileLoop (fun n s' => ∃ σ' H',Inv X pins σ' H' s' ∧ W n σ' H') ?_ m0 ⟨σ,H,I,w0⟩)
  rintro n s1 ⟨σ1,H1,I1,w1⟩
  refine wpAny_passesOwn hp (thn (hc pins s1 σ1 H1 _ I1 (turn n σ1 H1 w1)) fun b s2 ⟨H2,I2,q2⟩ => ?_)
  cases b with
  | true =>
    obtain ⟨N,hN,q2⟩ := q2
    rw [if_pos rfl]
    refine wpAny_passesOwn hp (thn (hb pins s2 σ1 H2 _ I2 q2) fun f s3 q3 => ?_)
    cases f with
    | next =>
      obtain ⟨σ3,H3,I3,n3⟩ := q3
      obtain ⟨m',hm,w3⟩ := hN σ3 H3 n3
      exact ⟨m',hm,σ3,H3,I3,w3⟩
    | cont =>
      obtain ⟨σ3,H3,I3,n3⟩ := q3
      obtain ⟨m',hm,w3⟩ := hN σ3 H3 n3
      exact ⟨m',hm,σ3,H3,I3,w3⟩
    | brk => exact q3
    | ret v => exact q3
  | false =>
    rw [if_neg Bool.false_ne_true]
    exact wpAny_execs_nil ⟨σ1,H2,I2,q2⟩
end
structure It where
  go : Nat → Hp → Prop
  yld : Nat → Hp → V → Hp → Prop
  stop : Nat → Hp → Prop
def FpOk (X : Cx) (pins : List (Addr × Obj)) (H : Hp) (b : Addr) : Prop :=
  H b = none ∧ b ≠ X.env.locals ∧ b ∉ X.fs ∧ (b ∈ X.ex ∨ X.s₀.heap.objs.size ≤ b) ∧ (∀ x c,X.env.cells.lookup x = some c → c ≠ b) ∧ ∀ p ∈ X.pn ++ pins,p.1 ≠ b
theorem Inv.fpOk {X : Cx} {pins : List (Addr × Obj)} {σ : St} {H H' : Hp} {s : Shared} {b : Addr} (I : Inv X pins σ H s) (hb : s.heap.objs.size ≤ b) (hn : H' b = none) : FpOk X pins H' b := by
  refine ⟨hn,Nat.ne_of_gt (Nat.lt_of_lt_of_le I.lt hb),I.nofs hb,.inr (Nat.le_trans I.sz hb),fun x c e z => ?_,fun p hp z => ?_⟩
  · obtain ⟨v,q⟩ := I.cell x c e
    exact absurd (Nat.lt_of_lt_of_le q.lt (by rw [z]; exact hb)) (Nat.lt_irrefl _)
  · exact absurd (Nat.lt_of_lt_of_le (Heap.lt_size (I.pin p hp).1) (by rw [z]; exact hb)) (Nat.lt_irrefl _)
structure Turn (P : Program) (w : World) (K : PySem.W.Frag) (tg : Expr) (J : It) (fp : List Addr) (it : Addr) (tn : Nat → Heap → Prop) : Prop where
  mem : it ∈ fp
  obj : ∀ i h,tn i h → ∀ b ∈ fp,∃ o,h.get? b = some o ∧ ∀ v,o.data ≠ .cell v
  keep : ∀ i h h',tn i h → (∀ b ∈ fp,∀ o,h.get? b = some o → h'.get? b = some o) → tn i h'
  item : ∀ (X : Cx),X.prog = P → X.w = w → X.K = K → X.calm = true → ∀ (i : Nat) (pins : List (Addr × Obj)) (s : Shared) (σ : St) (H : Hp) (E : Value → Shared → Prop),Inv X pins σ H s → (∀ b ∈ fp,FpOk X pins H b) → tn i s.heap → J.go i H →
    wpAny (model P w) X.A (pyNext (.ref it)) (fun r s1 => ∃ u,r = some u ∧
      wpAny (model P w) X.A (letOwnedTupleGo tg (.ref it) u) (fun _ s2 => ∃ x H',Inv X pins σ H' s2 ∧ RelV x u ∧ J.yld i H x H' ∧ tn (i + 1) s2.heap ∧ ∀ b ∈ fp,H' b = none) E s1) E s
  done : ∀ (X : Cx),X.prog = P → X.w = w → X.K = K → X.calm = true → ∀ (i : Nat) (pins : List (Addr × Obj)) (s : Shared) (σ : St) (H : Hp) (E : Value → Shared → Prop),Inv X pins σ H s → (∀ b ∈ fp,FpOk X pins H b) → tn i s.heap → J.stop i H →
    wpAny (model P w) X.A (pyNext (.ref it)) (fun r s1 => r = none ∧ Inv X pins σ H s1) E s
  self : ∀ (A : Around) (i : Nat) (s : Shared) (Q : Value → Shared → Prop) (E : Value → Shared → Prop),tn i s.heap → Q (.ref it) s → wpAny (model P w) A (pyIter (.ref it)) Q E s
abbrev TI := St → Hp → (It → Hp → Prop) → Prop
def PIE (X : Cx) (pins : List (Addr × Obj)) (σ : St) (tg : Expr) (R : It → Hp → Prop) (itv : Value) (s2 : Shared) : Prop :=
  ∃ (it : Addr) (fp : List Addr) (tn : Nat → Heap → Prop) (J : It) (H' : Hp),itv = .ref it ∧ Inv X pins σ H' s2 ∧ Turn X.prog X.w X.K tg J fp it tn ∧ tn 0 s2.heap ∧ (∀ b ∈ fp,FpOk X pins H' b) ∧ R J H'
def PI (X : Cx) (tg iter : Expr) (wi : TI) : Prop :=
  ∀ (pins : List (Addr × Obj)) (s : Shared) (σ : St) (H : Hp) (R : It → Hp → Prop),Inv X pins σ H s → wi σ H R →
    wpAny (model X.prog X.w) X.A (eval iter X.env) (fun v s1 => wpAny (model X.prog X.w) X.A (pyIter v) (PIE X pins σ tg R) X.xe s1) X.xe s
theorem go_of {M : Model} {A : Around} {E : Value → Shared → Prop} {s : Shared} {tg : Expr} {it : Addr} {u : Value} {o : Obj} {n : String} {vs : Array Value} {Q : Unit → Shared → Prop} (ho : s.heap.get? it = some o) (hc : o.cls = .type n) (hd : o.data = .fields vs)
    (hn : ["enumerate","zip","dict_itemiterator","dict_reverseitemiterator","odict_iterator","itertools.zip_longest","itertools.pairwise"].contains n = false) (hQ : Q () s) : wpAny M A (letOwnedTupleGo tg (.ref it) u) Q E s := by
  unfold letOwnedTupleGo
  cases tg <;> first
    | exact wpAny_pure hQ
    | (cases u <;> first
        | exact wpAny_pure hQ
        | (refine wpAny_bind (wpAny_load ho ?_)
           rw [hc,hd]
           show wpAny M A (if (["enumerate","zip","dict_itemiterator","dict_reverseitemiterator","odict_iterator","itertools.zip_longest","itertools.pairwise"].contains n && vs[0]? == some (rawInt _)) = true then _ else _) Q E s
           rw [if_neg (by intro h; rw [hn,Bool.false_and] at h; cases h)]
           exact wpAny_pure hQ))
def Itl (K : PySem.W.Frag) (a : Addr) : It :=
  ⟨fun i H => ∃ xs x,SqL K H a xs ∧ xs[i]? = some x,fun i H x H' => H' = H ∧ ∀ xs,SqL K H a xs → xs[i]? = some x,fun i H => ∃ xs,SqL K H a xs ∧ xs.length ≤ i⟩
def Itr (lo : Int) (n : Nat) : It := ⟨fun i _ => i < n,fun i H x H' => H' = H ∧ x = .int (lo + i),fun i _ => n ≤ i⟩
theorem turn_list {P : Program} {w : World} {K : PySem.W.Frag} {tg : Expr} (a it : Addr) : Turn P w K tg (Itl K a) [it] it (fun i h => h.IsListIter it a i) where
  mem := by simp
  obj := fun i h st b hb => by
    have e : b = it := by simpa using hb
    subst e
    obtain ⟨o,e,c,d⟩ := st
    exact ⟨o,e,fun v z => by rw [d] at z; cases z⟩
  keep := fun i h h' st k => st.at fun o e => k it (by simp) o e
  item := by
    intro X hP hw hK hc i pins s σ H E I hf st hg
    subst hP hw hK
    obtain ⟨xs,x,hq,hx⟩ := hg
    obtain ⟨its,rv,p,hz⟩ := I.list hq
    obtain ⟨u,hu,ru⟩ := rv.get hx
    obtain ⟨f0,f1,f2,f3,f4,f5⟩ := hf it (by simp)
    refine wpAny_pyNext_list_item st p.isList (x := u) (by simpa using hu) fun h' st' sb => ?_
    have I1 : Inv X pins σ H { s with heap := h' } := I.turned (t' := s.toks) (fun b o hb e => (sb.2 b hb).trans e) f0 f1 f3 f4 f5
    obtain ⟨o,e,c,d⟩ := id st'
    exact ⟨u,rfl,go_of (s := { s with heap := h' }) e c d (by decide) ⟨x,H,I1,ru,⟨rfl,fun ys hy => by rw [I.list_inj hy hq]; exact hx⟩,st',fun b hb => (hf b hb).1⟩⟩
  done := by
    intro X hP hw hK hc i pins s σ H E I hf st hg
    subst hP hw hK
    obtain ⟨xs,hq,hx⟩ := hg
    obtain ⟨its,rv,p,hz⟩ := I.list hq
    obtain ⟨f0,f1,f2,f3,f4,f5⟩ := hf it (by simp)
    have hl := rv.length
    exact wpAny_pyNext_list_end (I.ok.hd hc) st p.isList (by simp; omega) fun h' eb => ⟨rfl,I.turned (t' := s.toks) (fun b o hb e => eb b o hb e) f0 f1 f3 f4 f5⟩
  self := fun _ _ _ _ _ st h => wpAny_pyIter_listiter st h
theorem turn_range {P : Program} {w : World} {K : PySem.W.Frag} {tg : Expr} (it : Addr) (lo : Int) (n : Nat) : Turn P w K tg (Itr lo n) [it] it (fun i h => IsRangeIter h it (lo + (i : Nat) * 1) ((n : Int) - (i : Nat)) 1) where
  mem := by simp
  obj := fun i h st b hb => by
    have e : b = it := by simpa using hb
    subst e
    exact ⟨_,st,fun v z => by
      have z' : Data.fields _ = Data.cell v := z
      cases z'⟩
  keep := fun i h h' st k => k it (by simp) _ st
  item := by
    intro X hP hw hK hc i pins s σ H E I hf st hg
    subst hP hw hK
    obtain ⟨f0,f1,f2,f3,f4,f5⟩ := hf it (by simp)
    have W := Walks.range (prog := X.prog) (w := X.w) (I.ok.hd hc) it lo 1 n
    refine W.item i s _ _ hg st fun v h' tk hv st' kk => ?_
    obtain ⟨t,rfl⟩ := hv
    have I1 : Inv X pins σ H { s with heap := h',toks := tk } := I.turned (fun b o hb e => kk b o (by simpa using hb) e) f0 f1 f3 f4 f5
    refine ⟨_,rfl,go_of (s := { s with heap := h',toks := tk }) (n := "range_iterator") st' rfl rfl (by decide) ⟨.int (lo + i),H,I1,⟨t,?_⟩,⟨rfl,rfl⟩,st',fun b hb => (hf b hb).1⟩⟩
    rw [Int.mul_one]
  done := by
    intro X hP hw hK hc i pins s σ H E I hf st hg
    subst hP hw hK
    obtain ⟨f0,f1,f2,f3,f4,f5⟩ := hf it (by simp)
    exact wpAny_pyNext_range_end (I.ok.hd hc) st (by have : n ≤ i := hg; omega) fun h' eb => ⟨rfl,I.turned (t' := s.toks) (fun b o hb e => eb b o hb e) f0 f1 f3 f4 f5⟩
  self := fun _ _ _ _ _ st h => wpAny_pyIter_rangeiter st h
end L2
namespace L2
open PySem PySem.Spec PyProof.Rows
section
variable {X : Cx} {tg : Expr}
def iList (K : PySem.W.Frag) (tl : TE) : TI := fun σ H R => tl σ H fun x H1 => ∃ a,x = .ref a ∧ (∃ xs,SqL K H1 a xs) ∧ R (Itl K a) H1
theorem pi_list {l : Expr} {tl : TE} (hl : PE X l tl) : PI X tg l (iList X.K tl) := by
  intro pins s σ H R I h
  refine thn (hl pins s σ H _ I h) fun v s1 ⟨x,H1,I1,r1,q1⟩ => ?_
  obtain ⟨a,e,⟨xs,hq⟩,q⟩ := q1
  subst e
  cases r1
  obtain ⟨its,rv,p,hz⟩ := I1.list hq
  refine wpAny_pyIter_list p.isList ?_
  refine ⟨s1.heap.objs.size,[s1.heap.objs.size],_,_,H1,rfl,I1.kept (t' := s1.toks) fun b o e => Heap.get?_push_of_some _ e,turn_list a _,⟨_,Heap.get?_push_size _ rfl,rfl,rfl⟩,fun b hb => ?_,q⟩
  have e : b = s1.heap.objs.size := by simpa using hb
  subst e
  exact I1.fpOk (Nat.le_refl _) (I1.hok.fresh (Nat.le_refl _))
theorem range_it {pins : List (Addr × Obj)} {σ : St} {H : Hp} {s : Shared} {R : It → Hp → Prop} {E : Value → Shared → Prop} {lo hi : Int} {t u v : Tok} {tk : Nat} (I : Inv X pins σ H s) (h1 : -(2 ^ 62) ≤ lo) (h2 : lo < 2 ^ 62) (h3 : -(2 ^ 62) ≤ hi) (h4 : hi < 2 ^ 62)
    (q : R (Itr lo (hi - lo).toNat) H) : wpAny (model X.prog X.w) X.A (pyIter (.ref s.heap.objs.size)) (PIE X pins σ tg R) E { s with heap := s.heap.push { cls := .type "range",data := .fields #[.int lo t,.int hi u,.int 1 v] },toks := tk } := by
  refine wpAny_pyIter_range (IsRange.new ..) (small_one h1 h2 h3 h4) ?_
  have I1 : Inv X pins σ H { s with heap := s.heap.push { cls := .type "range",data := .fields #[.int lo t,.int hi u,.int 1 v] },toks := tk } := I.kept fun b o e => Heap.get?_push_of_some _ e
  refine ⟨(s.heap.push { cls := .type "range",data := .fields #[.int lo t,.int hi u,.int 1 v] }).objs.size,[(s.heap.push { cls := .type "range",data := .fields #[.int lo t,.int hi u,.int 1 v] }).objs.size],_,_,H,rfl,
    I1.kept (t' := tk) fun b o e => Heap.get?_push_of_some _ e,turn_range _ lo (hi - lo).toNat,?_,fun b hb => ?_,q⟩
  · have e1 : lo + ((0 : Nat) : Int) * 1 = lo := by simp
    have e2 : (((hi - lo).toNat : Nat) : Int) - ((0 : Nat) : Int) = Builtin.Range.rangeSize lo hi 1 := by rw [rangeSize_one]; split <;> omega
    show IsRangeIter _ _ (lo + ((0 : Nat) : Int) * 1) ((((hi - lo).toNat : Nat) : Int) - ((0 : Nat) : Int)) 1
    rw [e1,e2]
    exact Heap.get?_push_size _ rfl
  · have e : b = (s.heap.push { cls := .type "range",data := .fields #[.int lo t,.int hi u,.int 1 v] }).objs.size := by simpa using hb
    subst e
    exact I1.fpOk (Nat.le_refl _) (I1.hok.fresh (Nat.le_refl _))
def iRng1 (ta : TA) : TI := fun σ H R => ta σ H fun vs H1 => ∃ j : Int,vs = [.int j] ∧ -(2 ^ 62) ≤ j ∧ j < 2 ^ 62 ∧ R (Itr 0 j.toNat) H1
theorem pi_range1 {a : Expr} {ta : TA} {p pos : Pos} (hg : Gl X "range") (hm : X.mg "range" = none) (ha : PA X [a] ta) (hs : starEach [a] X.env = [(false,eval a X.env)] := by rfl) : PI X tg (.Call (.Name "range" p) [a] [] pos) (iRng1 ta) := by
  intro pins s σ H R I h
  refine Call_ (ld_blt I hg hm boot_range (PyProof.Rows.callWith_type1 (thn (ha pos pins s σ H _ I h) fun us s1 ⟨vs,H1,I1,r1,q1⟩ => ?_) hs rfl))
  obtain ⟨j,e,q1,q2,q⟩ := q1
  subst e
  cases r1 with
  | cons r rr =>
    cases rr
    obtain ⟨t,rfl⟩ := r
    exact call_range_1 (range_it I1 (by omega) (by omega) q1 q2 (by simpa using q))
def tFor (wi : TI) (g : TG) (tb : TS) : TS := fun D σ H => wi σ H fun J H1 => ∃ W : Nat → Nat → St → Hp → Prop,(∃ m,W 0 m σ H1) ∧ ∀ i m σ H,W i m σ H →
  (J.stop i H ∧ D.nx σ H) ∨ (J.go i H ∧ ∃ N : St → Hp → Prop,(∀ σ' H',N σ' H' → ∃ m',m' < m ∧ W (i + 1) m' σ' H') ∧ ∀ x H',J.yld i H x H' → g x σ H' fun σ2 H2 => tb { D with nx := N,ct := N,bk := D.nx } σ2 H2)
def pinsAt (fp : List Addr) (h : Heap) : List (Addr × Obj) := fp.filterMap fun b => (h.get? b).map fun o => (b,o)
theorem mem_pinsAt {fp : List Addr} {h : Heap} {b : Addr} {o : Obj} (hb : b ∈ fp) (e : h.get? b = some o) : (b,o) ∈ pinsAt fp h := List.mem_filterMap.mpr ⟨b,hb,by rw [e]; rfl⟩
theorem of_pinsAt {fp : List Addr} {h : Heap} {p : Addr × Obj} (hp : p ∈ pinsAt fp h) : p.1 ∈ fp ∧ h.get? p.1 = some p.2 := by
  obtain ⟨b,hb,e⟩ := List.mem_filterMap.mp hp
  cases q : h.get? b with
  | none => rw [q] at e; cases e
  | some o =>
    rw [q] at e
    have e' : (b,o) = p := Option.some.inj e
    subst e'
    exact ⟨hb,q⟩
theorem Inv.pinned {pins : List (Addr × Obj)} {σ : St} {H : Hp} {s : Shared} {fp : List Addr} (I : Inv X pins σ H s) (hf : ∀ b ∈ fp,FpOk X pins H b) (ho : ∀ b ∈ fp,∃ o,s.heap.get? b = some o ∧ ∀ v,o.data ≠ .cell v) : Inv X (pins ++ pinsAt fp s.heap) σ H s :=
  I.pins_of fun p hp => (List.mem_append.mp hp).elim (fun z => I.pin p (List.mem_append_right _ z)) fun z => by
    obtain ⟨hb,e⟩ := of_pinsAt z
    obtain ⟨f0,f1,f2,_⟩ := hf p.1 hb
    obtain ⟨o,e',d⟩ := ho p.1 hb
    rw [e] at e'; cases e'
    exact ⟨e,f0,f1,f2,d⟩
theorem Inv.unpinned {pins pl : List (Addr × Obj)} {σ : St} {H : Hp} {s : Shared} (I : Inv X (pins ++ pl) σ H s) : Inv X pins σ H s := I.pins_of fun p hp => I.pin p (List.mem_append_right _ (List.mem_append_left _ hp))
theorem ps_for {iter : Expr} {body : List Stmt} {wi : TI} {g : TG} {tb : TS} {pos : Pos} (hp : PassesOwn (model X.prog X.w) X.A X.env X.xe) (hc : X.calm = true) (hi : PI X tg iter wi) (hg : PG X tg g) (hb : PSs X body tb)
    (hs : ∀ x,foldedSetIterable iter X.env x = pure x := by intro _; rfl) : PS X (.For tg iter body [] pos) (tFor wi g tb) := by
  intro pins s σ H D I h
  refine wpAny_For (thn (hi pins s σ H _ I h) fun v s1 h1 => thn h1 fun itv s2 h2 => ?_) hs
  obtain ⟨it,fp,tn,J,H2,e,I2,T,st2,f2,W,⟨m0,w0⟩,turn⟩ := h2
  subst e
  have stat : ∀ {H' : Hp},(∀ b ∈ fp,H' b = none) → ∀ b ∈ fp,FpOk X pins H' b := fun hn b hb => ⟨hn b hb,(f2 b hb).2⟩
  refine codeAny_forLoop_any (fun n s' => ∃ i σ' H',Inv X pins σ' H' s' ∧ tn i s'.heap ∧ (∀ b ∈ fp,H' b = none) ∧ W i n σ' H') ?_ m0 ⟨0,σ,H2,I2,st2,fun b hb => (f2 b hb).1,w0⟩
  rintro n s3 ⟨i,σ3,H3,I3,st3,fr3,w3⟩
  rcases turn i n σ3 H3 w3 with ⟨stop,qn⟩ | ⟨go,N,hN,step⟩
  · refine wpAny_passesOwn hp (thn (T.done X rfl rfl rfl hc i pins s3 σ3 H3 X.xe I3 (stat fr3) st3 stop) fun r s4 ⟨hr,I4⟩ => ?_)
    subst hr
    exact wpAny_execs_nil ⟨σ3,H3,I4,qn⟩
  · refine wpAny_passesOwn hp (thn (T.item X rfl rfl rfl hc i pins s3 σ3 H3 X.xe I3 (stat fr3) st3 go) fun r s4 ⟨u,hr,h4⟩ => ?_)
    subst hr
    refine wpAny_passesOwn hp (thn h4 fun _ s5 ⟨x,H5,I5,r5,y5,st5,fr5⟩ => ?_)
    have I5' := I5.pinned (stat fr5) (T.obj _ _ st5)
    refine wpAny_passesOwn hp (thn (hg _ s5 σ3 H5 x u _ I5' r5 (step x H5 y5)) fun _ s6 ⟨σ6,H6,I6,q6⟩ => ?_)
    refine wpAny_passesOwn hp (thn (hb _ s6 σ6 H6 _ I6 q6) fun f s7 q7 => ?_)
    have again : ∀ {σ7 : St} {H7 : Hp},Inv X (pins ++ pinsAt fp s5.heap) σ7 H7 s7 → N σ7 H7 → ∃ m,m < n ∧ ∃ i σ' H',Inv X pins σ' H' s7 ∧ tn i s7.heap ∧ (∀ b ∈ fp,H' b = none) ∧ W i m σ' H' := fun {σ7 H7} I7 n7 => by
      obtain ⟨m',hm,w7⟩ := hN σ7 H7 n7
      refine ⟨m',hm,i + 1,σ7,H7,I7.unpinned,T.keep _ _ _ st5 fun b hb o e => (I7.pin (b,o) (List.mem_append_right _ (List.mem_append_right _ (mem_pinsAt hb e)))).1,fun b hb => ?_,w7⟩
      obtain ⟨o,e,d⟩ := T.obj _ _ st5 b hb
      exact (I7.pin (b,o) (List.mem_append_right _ (List.mem_append_right _ (mem_pinsAt hb e)))).2.1
    cases f with
    | next => obtain ⟨σ7,H7,I7,n7⟩ := q7; exact again I7 n7
    | cont => obtain ⟨σ7,H7,I7,n7⟩ := q7; exact again I7 n7
    | brk => obtain ⟨σ7,H7,I7,q7⟩ := q7; exact ⟨σ7,H7,I7.unpinned,q7⟩
    | ret v => obtain ⟨x7,σ7,H7,I7,r7,q7⟩ := q7; exact ⟨x7,σ7,H7,I7.unpinned,r7,q7⟩
end
theorem for_list {K : PySem.W.Frag} {a : Addr} {xs : List V} {g : TG} {tb : TS} {D : Ends} {σ : St} {H : Hp} (Pv : Nat → St → Hp → Prop) (h0 : Pv 0 σ H) (hl : ∀ i σ H,i ≤ xs.length → Pv i σ H → SqL K H a xs)
    (hs : ∀ i x σ H,xs[i]? = some x → Pv i σ H → g x σ H fun σ2 H2 => tb { D with nx := Pv (i + 1),ct := Pv (i + 1),bk := D.nx } σ2 H2) (hd : ∀ σ H,Pv xs.length σ H → D.nx σ H) :
    ∃ W : Nat → Nat → St → Hp → Prop,(∃ m,W 0 m σ H) ∧ ∀ i m σ H,W i m σ H →
      ((Itl K a).stop i H ∧ D.nx σ H) ∨ ((Itl K a).go i H ∧ ∃ N : St → Hp → Prop,(∀ σ' H',N σ' H' → ∃ m',m' < m ∧ W (i + 1) m' σ' H') ∧ ∀ x H',(Itl K a).yld i H x H' → g x σ H' fun σ2 H2 => tb { D with nx := N,ct := N,bk := D.nx } σ2 H2) := by
  refine ⟨fun i m σ H => m = xs.length - i ∧ i ≤ xs.length ∧ Pv i σ H,⟨xs.length,by simp,Nat.zero_le _,h0⟩,?_⟩
  rintro i m σ H ⟨rfl,hi,p⟩
  have q := hl i σ H hi p
  by_cases hlt : i < xs.length
  · refine .inr ⟨⟨xs,xs[i],q,by simp [hlt]⟩,Pv (i + 1),fun σ' H' p' => ⟨xs.length - (i + 1),by omega,rfl,hlt,p'⟩,fun x H' y => ?_⟩
    obtain ⟨e,y⟩ := y
    subst e
    exact hs i x σ _ (y xs q) p
  · have e : i = xs.length := by omega
    subst e
    exact .inl ⟨⟨xs,q,Nat.le_refl _⟩,hd σ H p⟩
theorem for_range {lo : Int} {n : Nat} {g : TG} {tb : TS} {D : Ends} {σ : St} {H : Hp} (Pv : Nat → St → Hp → Prop) (h0 : Pv 0 σ H)
    (hs : ∀ i σ H,i < n → Pv i σ H → g (.int (lo + i)) σ H fun σ2 H2 => tb { D with nx := Pv (i + 1),ct := Pv (i + 1),bk := D.nx } σ2 H2) (hd : ∀ σ H,Pv n σ H → D.nx σ H) :
    ∃ W : Nat → Nat → St → Hp → Prop,(∃ m,W 0 m σ H) ∧ ∀ i m σ H,W i m σ H →
      ((Itr lo n).stop i H ∧ D.nx σ H) ∨ ((Itr lo n).go i H ∧ ∃ N : St → Hp → Prop,(∀ σ' H',N σ' H' → ∃ m',m' < m ∧ W (i + 1) m' σ' H') ∧ ∀ x H',(Itr lo n).yld i H x H' → g x σ H' fun σ2 H2 => tb { D with nx := N,ct := N,bk := D.nx } σ2 H2) := by
  refine ⟨fun i m σ H => m = n - i ∧ i ≤ n ∧ Pv i σ H,⟨n,by simp,Nat.zero_le _,h0⟩,?_⟩
  rintro i m σ H ⟨rfl,hi,p⟩
  by_cases hlt : i < n
  · refine .inr ⟨hlt,Pv (i + 1),fun σ' H' p' => ⟨n - (i + 1),by omega,rfl,hlt,p'⟩,fun x H' y => ?_⟩
    obtain ⟨e,y⟩ := y
    subst e y
    exact hs i σ _ hlt p
  · have e : i = n := by omega
    subst e
    exact .inl ⟨Nat.le_refl _,hd σ H p⟩
theorem while_by {c : TT} {tb : TS} {D : Ends} {σ : St} {H : Hp} (Pv : St → Hp → Prop) (μ : St → Hp → Nat) (h0 : Pv σ H)
    (hs : ∀ σ H,Pv σ H → c σ H fun b H1 => if b = true then tb { D with nx := fun σ' H' => Pv σ' H' ∧ μ σ' H' < μ σ H,ct := fun σ' H' => Pv σ' H' ∧ μ σ' H' < μ σ H,bk := D.nx } σ H1 else D.nx σ H1)
    (mono : ∀ σ H Q Q',(∀ b H1,Q b H1 → Q' b H1) → c σ H Q → c σ H Q') : tWhile c tb D σ H := by
  refine ⟨fun m σ H => m = μ σ H ∧ Pv σ H,⟨_,rfl,h0⟩,?_⟩
  rintro m σ H ⟨rfl,p⟩
  refine mono σ H _ _ (fun b H1 q => ?_) (hs σ H p)
  cases b with
  | true => exact ⟨_,fun σ' H' ⟨p',l⟩ => ⟨_,l,rfl,p'⟩,q⟩
  | false => exact q
end L2
namespace L2
open PySem PySem.Spec PyProof.Rows
abbrev R2 := V → V → Hp → VK → Prop
def OpR (X : Cx) (f : Value → Value → Sem Value) (r : R2) : Prop :=
  ∀ (pins : List (Addr × Obj)) (s : Shared) (σ : St) (H : Hp) (x y : V) (v u : Value) (Q : VK),Inv X pins σ H s → RelV x v → RelV y u → r x y H Q →
    wpAny (model X.prog X.w) X.A (f v u) (EP X pins σ Q) X.xe s
def UnR (X : Cx) (f : Value → Sem Value) (r : V → Hp → VK → Prop) : Prop :=
  ∀ (pins : List (Addr × Obj)) (s : Shared) (σ : St) (H : Hp) (x : V) (v : Value) (Q : VK),Inv X pins σ H s → RelV x v → r x H Q →
    wpAny (model X.prog X.w) X.A (f v) (EP X pins σ Q) X.xe s
def CallR (X : Cx) (f : Value) (r : List V → Hp → VK → Prop) : Prop :=
  ∀ (pins : List (Addr × Obj)) (s : Shared) (σ : St) (H : Hp) (xs : List V) (us : List Value) (Q : VK),Inv X pins σ H s → Vals xs us → r xs H Q →
    wpAny (model X.prog X.w) X.A (call f us) (EP X pins σ Q) X.xe s
def tOp (r : R2) (ta tb : TE) : TE := fun σ H Q => ta σ H fun x H1 => tb σ H1 fun y H2 => r x y H2 Q
def tUn (r : V → Hp → VK → Prop) (ta : TE) : TE := fun σ H Q => ta σ H fun x H1 => r x H1 Q
inductive rI (C : Int → Int → Prop) (g : Int → Int → V) (x y : V) (H : Hp) (Q : VK) : Prop
  | mk (i j : Int) (e : x = .int i) (f : y = .int j) (c : C i j) (q : Q (g i j) H) : rI C g x y H Q
inductive rI0 (g : Int → Int → V) (x y : V) (H : Hp) (Q : VK) : Prop
  | mk (i j : Int) (e : x = .int i) (f : y = .int j) (q : Q (g i j) H) : rI0 g x y H Q
def rU (g : Int → V) : V → Hp → VK → Prop := fun x H Q => ∃ i,x = .int i ∧ Q (g i) H
section
variable {X : Cx} {a b c : Expr} {ta tb tc : TE} {pos : Pos}
theorem binT (ha : PE X a ta) (hb : PE X b tb) {pins : List (Addr × Obj)} {s : Shared} {σ : St} {H : Hp} {R : V → V → Hp → Prop} (I : Inv X pins σ H s)
    (h : ta σ H fun x H1 => tb σ H1 fun y H2 => R x y H2) {Q : Value → Shared → Prop} {f : Value → Value → Sem Value}
    (hf : ∀ v u s2 x y H2,Inv X pins σ H2 s2 → RelV x v → RelV y u → R x y H2 → wpAny (model X.prog X.w) X.A (f v u) Q X.xe s2) :
    wpAny (model X.prog X.w) X.A (eval a X.env) (fun v s₁ => wpAny (model X.prog X.w) X.A (eval b X.env) (fun u s₂ => wpAny (model X.prog X.w) X.A (f v u) Q X.xe s₂) X.xe s₁) X.xe s := by
  refine thn (ha pins s σ H _ I h) fun v s1 ⟨x,H1,I1,r1,q1⟩ => ?_
  refine thn (hb pins s1 σ H1 _ I1 q1) fun u s2 ⟨y,H2,I2,r2,q2⟩ => ?_
  exact hf v u s2 x y H2 I2 r1 r2 q2
theorem pe_op {op : Operator} {r : R2} (ho : OpR X (binaryOp op) r) (ha : PE X a ta) (hb : PE X b tb) : PE X (.BinOp a op b pos) (tOp r ta tb) := by
  intro pins s σ H Q I h
  exact wpAny_BinOp (binT ha hb I h fun v u s2 x y H2 I2 rx ry q => ho pins s2 σ H2 x y v u Q I2 rx ry q)
theorem pe_un {op : UnaryOp} {r : V → Hp → VK → Prop} (ho : UnR X (unaryOp op) r) (ha : PE X a ta) : PE X (.UnaryOp op a pos) (tUn r ta) := by
  intro pins s σ H Q I h
  exact UnaryOp_ (thn (ha pins s σ H _ I h) fun v s1 ⟨x,H1,I1,r1,q1⟩ => ho pins s1 σ H1 x v Q I1 r1 q1)
theorem opI {f : Value → Value → Sem Value} {C : Int → Int → Prop} {g : Int → Int → Int}
    (rule : ∀ (i j : Int) (t u : Tok) (s : Shared) (Q : Value → Shared → Prop) (E : Value → Shared → Prop),C i j → Q (.int (g i j) s.toks) { s with toks := s.toks + 1 } → wpAny (model X.prog X.w) X.A (f (.int i t) (.int j u)) Q E s) :
    OpR X f (rI C fun i j => .int (g i j)) := by
  intro pins s σ H x y v u Q I rx ry h
  obtain ⟨i,j,rfl,rfl,hc,q⟩ := h
  obtain ⟨t,rfl⟩ := rx
  obtain ⟨t',rfl⟩ := ry
  exact rule i j t t' s _ _ hc ⟨.int (g i j),H,I.tok _,⟨_,rfl⟩,q⟩
theorem opI0 {f : Value → Value → Sem Value} {g : Int → Int → Int}
    (rule : ∀ (i j : Int) (t u : Tok) (s : Shared) (Q : Value → Shared → Prop) (E : Value → Shared → Prop),Q (.int (g i j) s.toks) { s with toks := s.toks + 1 } → wpAny (model X.prog X.w) X.A (f (.int i t) (.int j u)) Q E s) :
    OpR X f (rI0 fun i j => .int (g i j)) := by
  intro pins s σ H x y v u Q I rx ry h
  obtain ⟨i,j,rfl,rfl,q⟩ := h
  obtain ⟨t,rfl⟩ := rx
  obtain ⟨t',rfl⟩ := ry
  exact rule i j t t' s _ _ ⟨.int (g i j),H,I.tok _,⟨_,rfl⟩,q⟩
theorem opB0 {f : Value → Value → Sem Value} {g : Int → Int → Bool}
    (rule : ∀ (i j : Int) (t u : Tok) (s : Shared) (Q : Value → Shared → Prop) (E : Value → Shared → Prop),Q (.bool (g i j)) s → wpAny (model X.prog X.w) X.A (f (.int i t) (.int j u)) Q E s) :
    OpR X f (rI0 fun i j => .bl (g i j)) := by
  intro pins s σ H x y v u Q I rx ry h
  obtain ⟨i,j,rfl,rfl,q⟩ := h
  obtain ⟨t,rfl⟩ := rx
  obtain ⟨t',rfl⟩ := ry
  exact rule i j t t' s _ _ ⟨.bl (g i j),H,I,rfl,q⟩
def CPow (i j : Int) : Prop := 0 ≤ j ∧ j ≤ 1000000 ∧ i.natAbs < 2 ^ 64
def CMul (i j : Int) : Prop := (-(2 ^ 64) < i ∧ i < 2 ^ 64) ∨ (-(2 ^ 64) < j ∧ j < 2 ^ 64)
theorem CMul.ok {i j : Int} (h : CMul i j) : IntMulOk i j := by
  rcases h with ⟨h1,h2⟩ | ⟨h1,h2⟩
  · exact .of_left (intBits_le_64 h1 h2)
  · exact .of_right (intBits_le_64 h1 h2)
theorem op_add : OpR X (binaryOp .Add) (rI0 fun i j => .int (i + j)) := opI0 fun _ _ _ _ _ _ _ q => add_int q
theorem op_sub : OpR X (binaryOp .Sub) (rI0 fun i j => .int (i - j)) := opI0 fun _ _ _ _ _ _ _ q => sub_int q
theorem op_mod : OpR X (binaryOp .Mod) (rI (fun _ j => 0 < j) fun i j => .int (i % j)) := opI fun i j _ _ _ _ _ hc q => by
  have h1 : (0 : Int) < j := hc
  exact mod_int' (by omega) (by rw [Int.fmod_eq_emod_of_nonneg i (by omega)]; exact q)
theorem op_pow : OpR X (binaryOp .Pow) (rI CPow fun i j => .int (i ^ j.toNat)) := opI fun _ _ _ _ _ _ _ hc q => pow_int_small hc.1 hc.2.1 hc.2.2 q
theorem unI {f : Value → Sem Value} {g : Int → Int}
    (rule : ∀ (i : Int) (t : Tok) (s : Shared) (Q : Value → Shared → Prop) (E : Value → Shared → Prop),Q (.int (g i) s.toks) { s with toks := s.toks + 1 } → wpAny (model X.prog X.w) X.A (f (.int i t)) Q E s) :
    UnR X f (rU fun i => .int (g i)) := by
  intro pins s σ H x v Q I rx h
  obtain ⟨i,rfl,q⟩ := h
  obtain ⟨t,rfl⟩ := rx
  exact rule i t s _ _ ⟨.int (g i),H,I.tok _,⟨_,rfl⟩,q⟩
theorem un_neg : UnR X (unaryOp .USub) (rU fun i => .int (-i)) := unI fun _ _ _ _ _ q => neg_int q
end
def scal : V → V → Bool
  | .non,.non => true | .non,.int _ => true | .int _,.non => true | .non,.bl _ => true | .bl _,.non => true | .non,.str _ => true | .str _,.non => true
  | .int _,.int _ => true | .bl _,.bl _ => true | .str _,.str _ => true | .byt _,.byt _ => true
  | .int _,.str _ => true | .str _,.int _ => true | .bl _,.str _ => true | .str _,.bl _ => true
  | _,_ => false
inductive rEq (x y : V) (H : Hp) (Q : VK) : Prop
  | mk (s : scal x y = true) (q : Q (.bl (decide (x = y))) H) : rEq x y H Q
inductive rNe (x y : V) (H : Hp) (Q : VK) : Prop
  | mk (s : scal x y = true) (q : Q (.bl (!decide (x = y))) H) : rNe x y H Q
theorem dec_int {i j : Int} : decide (V.int i = V.int j) = (i == j) := by
  rw [Bool.eq_iff_iff]
  simp
theorem dec_bl {i j : Bool} : decide (V.bl i = V.bl j) = (i == j) := by
  rw [Bool.eq_iff_iff]
  simp
theorem dec_str {i j : Str} : decide (V.str i = V.str j) = (i == j) := by
  rw [Bool.eq_iff_iff]
  simp
theorem dec_byt {i j : Array UInt8} : decide (V.byt i = V.byt j) = (i.toList == j.toList) := by
  rw [Bool.eq_iff_iff]
  cases i
  cases j
  simp
section
variable {X : Cx} {a b c : Expr} {ta tb tc : TE} {pos : Pos}
theorem fin_bl {pins : List (Addr × Obj)} {σ : St} {H : Hp} {s : Shared} {Q : VK} {k k' : Bool} (I : Inv X pins σ H s) (q : Q (.bl k) H) (e : k = k') : EP X pins σ Q (.bool k') s := by
  subst e
  exact ⟨.bl k,H,I,rfl,q⟩
theorem op_eq : OpR X (compareOp .Eq) rEq := by
  intro pins s σ H x y v u Q I rx ry h
  obtain ⟨hs,q⟩ := h
  cases x with
  | non =>
    cases rx
    cases y with
    | non => cases ry; exact PySem.EqNone.eq_none_none (fin_bl I q (by simp))
    | bl j => cases ry; exact PySem.EqNone.eq_none_bool (fin_bl I q (by simp))
    | int j => obtain ⟨t',rfl⟩ := ry; exact PySem.EqNone.eq_none_int (fin_bl I q (by simp))
    | str j => obtain ⟨t',rfl⟩ := ry; exact PySem.EqNone.eq_none_str (fin_bl I q (by simp))
    | _ => exact absurd (show false = true from hs) Bool.false_ne_true
  | bl i =>
    cases rx
    cases y with
    | non => cases ry; exact PySem.EqNone.eq_bool_none (fin_bl I q (by simp))
    | bl j => cases ry; exact eq_bool (fin_bl I q dec_bl)
    | str j => obtain ⟨t',rfl⟩ := ry; exact PySem.EqMixed.eq_bool_str (fin_bl I q (by simp))
    | _ => exact absurd (show false = true from hs) Bool.false_ne_true
  | int i =>
    obtain ⟨t,rfl⟩ := rx
    cases y with
    | non => cases ry; exact PySem.EqNone.eq_int_none (fin_bl I q (by simp))
    | int j => obtain ⟨t',rfl⟩ := ry; exact eq_int (fin_bl I q dec_int)
    | str j => obtain ⟨t',rfl⟩ := ry; exact PySem.EqMixed.eq_int_str (fin_bl I q (by simp))
    | _ => exact absurd (show false = true from hs) Bool.false_ne_true
  | str i =>
    obtain ⟨t,rfl⟩ := rx
    cases y with
    | non => cases ry; exact PySem.EqNone.eq_str_none (fin_bl I q (by simp))
    | bl j => cases ry; exact PySem.EqMixed.eq_str_bool (fin_bl I q (by simp))
    | int j => obtain ⟨t',rfl⟩ := ry; exact PySem.EqMixed.eq_str_int (fin_bl I q (by simp))
    | str j => obtain ⟨t',rfl⟩ := ry; exact eq_str (fin_bl I q dec_str)
    | _ => exact absurd (show false = true from hs) Bool.false_ne_true
  | byt i =>
    obtain ⟨t,rfl⟩ := rx
    cases y with
    | byt j => obtain ⟨t',rfl⟩ := ry; exact PySem.W.eq_bytes (fin_bl I q dec_byt)
    | _ => exact absurd (show false = true from hs) Bool.false_ne_true
  | _ => cases y <;> exact absurd (show false = true from hs) Bool.false_ne_true
theorem op_ne : OpR X (compareOp .NotEq) rNe := by
  intro pins s σ H x y v u Q I rx ry h
  obtain ⟨hs,q⟩ := h
  cases x with
  | non =>
    cases rx
    cases y with
    | non => cases ry; exact PySem.EqNone.ne_none_none (fin_bl I q (by simp))
    | bl j => cases ry; exact PySem.EqNone.ne_none_bool (fin_bl I q (by simp))
    | int j => obtain ⟨t',rfl⟩ := ry; exact PySem.EqNone.ne_none_int (fin_bl I q (by simp))
    | str j => obtain ⟨t',rfl⟩ := ry; exact PySem.EqNone.ne_none_str (fin_bl I q (by simp))
    | _ => exact absurd (show false = true from hs) Bool.false_ne_true
  | bl i =>
    cases rx
    cases y with
    | non => cases ry; exact PySem.EqNone.ne_bool_none (fin_bl I q (by simp))
    | bl j => cases ry; exact ne_bool (fin_bl I q (congrArg not dec_bl))
    | str j => obtain ⟨t',rfl⟩ := ry; exact PySem.EqMixed.ne_bool_str (fin_bl I q (by simp))
    | _ => exact absurd (show false = true from hs) Bool.false_ne_true
  | int i =>
    obtain ⟨t,rfl⟩ := rx
    cases y with
    | non => cases ry; exact PySem.EqNone.ne_int_none (fin_bl I q (by simp))
    | int j => obtain ⟨t',rfl⟩ := ry; exact ne_int (fin_bl I q (congrArg not dec_int))
    | str j => obtain ⟨t',rfl⟩ := ry; exact PySem.EqMixed.ne_int_str (fin_bl I q (by simp))
    | _ => exact absurd (show false = true from hs) Bool.false_ne_true
  | str i =>
    obtain ⟨t,rfl⟩ := rx
    cases y with
    | non => cases ry; exact PySem.EqNone.ne_str_none (fin_bl I q (by simp))
    | bl j => cases ry; exact PySem.EqMixed.ne_str_bool (fin_bl I q (by simp))
    | int j => obtain ⟨t',rfl⟩ := ry; exact PySem.EqMixed.ne_str_int (fin_bl I q (by simp))
    | str j => obtain ⟨t',rfl⟩ := ry; exact ne_str (fin_bl I q (congrArg not dec_str))
    | _ => exact absurd (show false = true from hs) Bool.false_ne_true
  | byt i =>
    obtain ⟨t,rfl⟩ := rx
    cases y with
    | byt j => obtain ⟨t',rfl⟩ := ry; exact PySem.W.ne_bytes (fin_bl I q (congrArg not dec_byt))
    | _ => exact absurd (show false = true from hs) Bool.false_ne_true
  | _ => cases y <;> exact absurd (show false = true from hs) Bool.false_ne_true
theorem op_lt : OpR X (compareOp .Lt) (rI0 fun i j => .bl (decide (i < j))) := opB0 fun _ _ _ _ _ _ _ q => lt_int q
theorem op_le : OpR X (compareOp .LtE) (rI0 fun i j => .bl (decide (i ≤ j))) := opB0 fun _ _ _ _ _ _ _ q => le_int q
theorem op_gt : OpR X (compareOp .Gt) (rI0 fun i j => .bl (decide (j < i))) := opB0 fun _ _ _ _ _ _ _ q => gt_int q
theorem op_ge : OpR X (compareOp .GtE) (rI0 fun i j => .bl (decide (j ≤ i))) := opB0 fun _ _ _ _ _ _ _ q => ge_int q
theorem nomark (b : Expr) {op : CmpOp} (h : op ≠ .In := by decide) (h2 : op ≠ .NotIn := by decide) : behindInMarks op b = false := by
  have e1 : (op == CmpOp.In) = false := by cases op <;> first | rfl | exact absurd rfl h
  have e2 : (op == CmpOp.NotIn) = false := by cases op <;> first | rfl | exact absurd rfl h2
  cases b <;> simp [behindInMarks,e1,e2]
theorem pe_cmpR {op : CmpOp} {r : R2} (ho : OpR X (compareOp op) r) (ha : PE X a ta) (hb : PE X b tb) (hm : behindInMarks op b = false) : PE X (.Compare a [op] [b] pos) (tOp r ta tb) := by
  intro pins s σ H Q I h
  exact wpAny_Compare1 (binT ha hb I h fun v u s2 x y H2 I2 rx ry q => ho pins s2 σ H2 x y v u Q I2 rx ry q) hm
inductive isB (x : V) (H : Hp) (Q : Bool → Hp → Prop) : Prop
  | mk (k : Bool) (e : x = .bl k) (q : Q k H) : isB x H Q
def tTest (t : TE) : TT := fun σ H Q => t σ H fun x H' => isB x H' Q
theorem pt_cmpR {op : CmpOp} {r : R2} (ho : OpR X (compareOp op) r) (ha : PE X a ta) (hb : PE X b tb) (hm : behindInMarks op b = false) : PT X (.Compare a [op] [b] pos) (tTest (tOp r ta tb)) := by
  intro pins s σ H Q I h
  refine wpAny_isTrue_Compare1 (thn (ha pins s σ H _ I h) fun v s1 ⟨x,H1,I1,r1,q1⟩ => thn (hb pins s1 σ H1 _ I1 q1) fun u s2 ⟨y,H2,I2,r2,q2⟩ =>
    thn (ho pins s2 σ H2 x y v u _ I2 r1 r2 q2) fun c s3 ⟨z,H3,I3,r3,k,e,q3⟩ => ?_) hm
  subst e
  cases r3
  exact wpAny_truthy_bool ⟨H3,I3,q3⟩
def tChain (r r' : R2) (ta tb tc : TE) : TE := fun σ H Q => ta σ H fun x H1 => tb σ H1 fun y H2 => r x y H2 fun z H3 => ∃ k,z = .bl k ∧
  (if k = true then tc σ H3 fun w' H4 => r' y w' H4 Q else Q (.bl false) H3)
theorem pe_chain {op op' : CmpOp} {r r' : R2} (ho : OpR X (compareOp op) r) (ho' : OpR X (compareOp op') r') (ha : PE X a ta) (hb : PE X b tb) (hc : PE X c tc)
    (hm : lastMarks [op,op'] [b,c] = false := by with_unfolding_all rfl) : PE X (.Compare a [op,op'] [b,c] pos) (tChain r r' ta tb tc) := by
  intro pins s σ H Q I h
  refine Compare_chain (thn (ha pins s σ H _ I h) fun v s1 ⟨x,H1,I1,r1,q1⟩ => chain_link (thn (hb pins s1 σ H1 _ I1 q1) fun u s2 ⟨y,H2,I2,r2,q2⟩ =>
    thn (ho pins s2 σ H2 x y v u _ I2 r1 r2 q2) fun d s3 ⟨z,H3,I3,r3,k,e,q3⟩ => ?_)) hm
  subst e
  cases r3
  refine wpAny_truthy_bool ?_
  cases k with
  | false => exact ite_ff ⟨.bl false,H3,I3,rfl,q3⟩
  | true => exact ite_tt (chain_last (thn (hc pins s3 σ H3 _ I3 q3) fun w' s4 ⟨z',H4,I4,r4,q4⟩ => ho' pins s4 σ H4 y z' u w' Q I4 r2 r4 q4))
theorem line63 : (sizeLine : Nat) < 2 ^ 63 := by rw [sizeLine_eq]; decide
theorem vals1 {x : V} {us : List Value} (r : Vals [x] us) : ∃ u,us = [u] ∧ RelV x u := by
  cases r with
  | cons r1 r2 => cases r2; exact ⟨_,rfl,r1⟩
theorem vals2 {x y : V} {us : List Value} (r : Vals [x,y] us) : ∃ u w',us = [u,w'] ∧ RelV x u ∧ RelV y w' := by
  cases r with
  | cons r1 r2 =>
    cases r2 with
    | cons r3 r4 => cases r4; exact ⟨_,_,rfl,r1,r3⟩
theorem call_abs : CallR X (.builtin "abs") (fun xs H Q => ∃ i,xs = [.int i] ∧ Q (.int (if i < 0 then -i else i)) H) := by
  intro pins s σ H xs us Q I r h
  obtain ⟨i,rfl,q⟩ := h
  obtain ⟨u,rfl,t,rfl⟩ := vals1 r
  exact call_abs_int fun u tk => ⟨.int (if i < 0 then -i else i),H,I.tok _,⟨_,rfl⟩,q⟩
theorem call_max2 (hc : X.calm = true) : CallR X (.builtin "max") (fun xs H Q => ∃ i j,xs = [.int i,.int j] ∧ Q (.int (if j > i then j else i)) H) := by
  intro pins s σ H xs us Q I r h
  obtain ⟨i,j,rfl,q⟩ := h
  obtain ⟨u,w',rfl,⟨t,rfl⟩,⟨t',rfl⟩⟩ := vals2 r
  refine max_two_ints (I.ok.hd hc) fun h' tk k => ⟨_,H,I.kept k,?_,q⟩
  by_cases hj : j > i
  · rw [if_pos hj,if_pos hj]; exact ⟨_,rfl⟩
  · rw [if_neg hj,if_neg hj]; exact ⟨_,rfl⟩
theorem call_min2 (hc : X.calm = true) : CallR X (.builtin "min") (fun xs H Q => ∃ i j,xs = [.int i,.int j] ∧ Q (.int (if j < i then j else i)) H) := by
  intro pins s σ H xs us Q I r h
  obtain ⟨i,j,rfl,q⟩ := h
  obtain ⟨u,w',rfl,⟨t,rfl⟩,⟨t',rfl⟩⟩ := vals2 r
  refine min_two_ints (I.ok.hd hc) fun h' tk k => ⟨_,H,I.kept k,?_,q⟩
  by_cases hj : j < i
  · rw [if_pos hj,if_pos hj]; exact ⟨_,rfl⟩
  · rw [if_neg hj,if_neg hj]; exact ⟨_,rfl⟩
theorem call_int1 : CallR X (.type "int") (fun xs H Q => (∃ i,xs = [.int i] ∧ Q (.int i) H) ∨ ∃ k,xs = [.bl k] ∧ Q (.int (if k then 1 else 0)) H) := by
  intro pins s σ H xs us Q I r h
  rcases h with ⟨i,rfl,q⟩ | ⟨k,rfl,q⟩
  · obtain ⟨u,rfl,t,rfl⟩ := vals1 r
    exact call_int_int ⟨.int i,H,I,⟨_,rfl⟩,q⟩
  · obtain ⟨u,rfl,r1⟩ := vals1 r
    cases r1
    exact call_int_bool ⟨.int (if k then 1 else 0),H,I.tok _,⟨_,rfl⟩,q⟩
end
end L2
namespace L2
open PySem PySem.Spec PyProof.Rows
structure ObjM (h : Heap) (x dx C : Addr) (mA : Str → Option Value) : Prop where
  obj : h.get? x = some (PySem.W.instObj C dx)
  ns : h.Ns1 dx mA
  ne : dx ≠ x
theorem lookIn_ns {h : Heap} {dx : Addr} {mA : Str → Option Value} (n : h.Ns1 dx mA) : ∃ od,h.get? dx = some od ∧ ∀ name,PySem.W.lookIn name od = some (mA name) := by
  obtain ⟨o,es,ep,ho,hd,hk,_,hm⟩ := n
  refine ⟨o,ho,fun name => ?_⟩
  have e := hm name
  unfold nsFind findBy at e
  rw [← Array.find?_toList] at e
  unfold PySem.W.lookIn
  rw [hd]
  dsimp only
  split
  · rename_i y q
    rw [q] at e
    exact congrArg some e
  · rename_i q
    rw [q] at e
    have a : es.toList.any (·.refKey) = false := by
      rw [List.any_eq_false]
      intro y hy
      obtain ⟨z,t,hkey⟩ := hk y (Array.mem_toList_iff.mp hy)
      simp [DictEntry.refKey,hkey]
    have a' : ¬ es.toList.any (·.refKey) = true := by rw [a]; exact Bool.false_ne_true
    rw [if_neg a']
    exact congrArg some e
theorem ObjM.look {h : Heap} {x dx C : Addr} {mA : Str → Option Value} (I : ObjM h x dx C mA) : ∃ od,PySem.W.InstAt h x (PySem.W.instObj C dx) C (some od) ∧ ∀ name,PySem.W.lookIn name od = some (mA name) :=
  let ⟨od,ho,hl⟩ := lookIn_ns I.ns
  ⟨od,⟨I.obj,rfl,rfl,ho⟩,hl⟩
section
variable {prog : Program} {w : World} {A : Around} {E : Value → Shared → Prop} {s : Shared} {K : PySem.W.Frag} {x dx C f : Addr} {mA : Str → Option Value} {name : Str} {v : Value}
end
section
variable {P : Program} {w : World} {H H' : Hp} {h h' : Heap} {a C dx : Addr} {fs fs' : List (Str × V)}
theorem ins_get (hok : HOk P w H h) (e : H a = some (.ins C dx fs)) : ∃ mA,ObjM h a dx C mA ∧ (∀ f,RelO (fs.lookup f) (mA f)) ∧ PySem.Within mA (fs.map (·.1)) ∧ fs.length ≤ 1000 ∧ H dx = some (.own a) := by
  obtain ⟨d,z,ne,ob,mA,n,r,q⟩ := (show ObjOk P w H h a (.ins C dx fs) from hok a _ e)
  exact ⟨mA,⟨ob,n,ne⟩,r,q,z,d⟩
end
structure Cls (K : PySem.W.Frag) (C : Addr) : Prop where
  pg : PySem.W.plainGet K C Str.empty = true
  hd : PySem.W.hasDictIn K C = true
  po : PySem.W.plainOver K C = true
  sa : PySem.W.findIn K (.ref C) "__setattr__" = some (some (.builtin "object.__setattr__"))
theorem Cls.get {K : PySem.W.Frag} {C : Addr} (c : Cls K C) (f : Str) : PySem.W.plainGet K C f = true := c.pg
section
variable {X : Cx} {pins : List (Addr × Obj)} {σ : St} {H : Hp} {s : Shared} {a C dx : Addr} {fs : List (Str × V)} {f : Str} {v : V} {A : Around} {E : Value → Shared → Prop}
end
section
variable {X : Cx} {o e value : Expr} {f : Str} {pos pos' tpos : Pos} {ta tv : TE}
end
section
variable {X : Cx} {pins : List (Addr × Obj)} {σ : St} {H : Hp} {s : Shared} {A : Around} {E : Value → Shared → Prop} {Q : Value → Shared → Prop} {c : Value} {b : Bool}
inductive TyOf (K : PySem.W.Frag) (H : Hp) : V → Value → Prop where
  | non : TyOf K H .non (.type "NoneType")
  | bl (x : Bool) : TyOf K H (.bl x) (.type "bool")
  | int (i : Int) : TyOf K H (.int i) (.type "int")
  | str (x : Str) : TyOf K H (.str x) (.type "str")
  | flt (x : UInt64) : TyOf K H (.flt x) (.type "float")
  | lst {a : Addr} {xs : List V} (e : H a = some (.lst xs)) : TyOf K H (.ref a) (.type "list")
  | frz {a : Addr} {o : Obj} {xs : List V} (e : H a = some (.frz o (.lst xs))) : TyOf K H (.ref a) (.type "list")
  | tup {a : Addr} {xs : List V} (e : H a = some (.tup xs)) : TyOf K H (.ref a) (.type "tuple")
  | dK {a : Addr} {kvs : List (Key × V)} (e : H a = some (.dK kvs)) : TyOf K H (.ref a) (.type "dict")
  | dT {a : Addr} {kvs : List (List Key × V)} (e : H a = some (.dT kvs)) : TyOf K H (.ref a) (.type "dict")
  | ins {a C dx : Addr} {fs : List (Str × V)} (e : H a = some (.ins C dx fs)) (cl : Cls K C) (ha : PySem.W.findIn K (.ref C) "__class__" = some (some (.builtin "object.__class__")))
      (hn : PySem.W.specialIn K (.builtin "object.__class__") "__get__" = some (some (.builtin "getset_descriptor.__get__"))) (htk : PySem.W.takesIn K (.builtin "object.__class__") = some true)
      (hm : PySem.W.mroIn K C (.type "object") = some true) : TyOf K H (.ref a) (.ref C)
theorem isinst_ok {x : V} {u t : Value} (I : Inv X pins σ H s) (rx : RelV x u) (ty : TyOf X.K H x t) (e : PySem.W.kitOne X.K t c = some b) (h : ∀ tk,Q (.bool b) { s with toks := tk }) :
    wpAny (model X.prog X.w) A (call (.builtin "isinstance") [u,c]) Q E s := by
  cases ty with
  | non => cases (show u = Value.none from rx); exact PySem.W.kia_one PySem.W.kitx_none I.kIn True.intro e (fun z => nomatch z) h
  | bl y => cases (show u = Value.bool y from rx); exact PySem.W.kia_one PySem.W.kitx_bool I.kIn True.intro e (fun z => nomatch z) h
  | int i => obtain ⟨t,q⟩ := (show ∃ t,u = Value.int i t from rx); cases q; exact PySem.W.kia_one PySem.W.kitx_int I.kIn True.intro e (fun z => nomatch z) h
  | str y => obtain ⟨t,q⟩ := (show ∃ t,u = Value.str y t from rx); cases q; exact PySem.W.kia_one PySem.W.kitx_str I.kIn True.intro e (fun z => nomatch z) h
  | flt y => obtain ⟨t,q⟩ := (show ∃ t,u = Value.float y t from rx); cases q; exact PySem.W.kia_one PySem.W.kitx_float I.kIn True.intro e (fun z => nomatch z) h
  | @lst a xs ea =>
    cases (show u = Value.ref a from rx)
    obtain ⟨_,_,n,_,h1⟩ := (show ObjOk X.prog X.w H s.heap a (.lst xs) from I.hok a _ ea)
    exact PySem.W.kia_one PySem.W.kitx_list I.kIn ⟨_,h1,rfl⟩ e (fun z => nomatch z) h
  | @frz a ob xs ea =>
    cases (show u = Value.ref a from rx)
    obtain ⟨_,_,_,n,_,h1⟩ := (show ObjOk X.prog X.w H s.heap a (.frz ob (.lst xs)) from I.hok a _ ea)
    exact PySem.W.kia_one PySem.W.kitx_list I.kIn ⟨_,h1,rfl⟩ e (fun z => nomatch z) h
  | @tup a xs ea =>
    cases (show u = Value.ref a from rx)
    obtain ⟨_,_,_,p⟩ := (show ObjOk X.prog X.w H s.heap a (.tup xs) from I.hok a _ ea)
    obtain ⟨o,h1,h2,_⟩ := p
    exact PySem.W.kia_one PySem.W.kitx_tuple I.kIn ⟨o,h1,h2⟩ e (fun z => nomatch z) h
  | @dK a kvs ea =>
    cases (show u = Value.ref a from rx)
    obtain ⟨_,_,vs,_,p⟩ := (show ObjOk X.prog X.w H s.heap a (.dK kvs) from I.hok a _ ea)
    obtain ⟨o,es,ep,h1,h2,_⟩ := p
    exact PySem.W.kia_one PySem.W.kitx_dict I.kIn ⟨o,h1,h2.1⟩ e (fun z => nomatch z) h
  | @dT a kvs ea =>
    cases (show u = Value.ref a from rx)
    obtain ⟨_,_,xs,_,o,es,ep,h1,h2,_⟩ := (show ObjOk X.prog X.w H s.heap a (.dT kvs) from I.hok a _ ea)
    exact PySem.W.kia_one PySem.W.kitx_dict I.kIn ⟨o,h1,h2.1⟩ e (fun z => nomatch z) h
  | @ins a C dx fs ea cl ha hn htk hm =>
    cases (show u = Value.ref a from rx)
    obtain ⟨mA,O,_⟩ := ins_get I.hok ea
    obtain ⟨od,J,_⟩ := O.look
    exact PySem.W.kia_one (PySem.W.kitx_own (cl.get _) cl.hd ha hn htk hm) I.kIn J e (fun z => nomatch z) h
end
end L2
namespace L2
open PySem PySem.Spec PyProof.Rows
structure Room (k : Nat) (A : Around) : Prop where
  hd : A.handled = none
  dp : A.depth + 3 * k + 5 < recursionLimit
  un : A.units + 16 * k + 200 < cLine
  gd : A.guards = some []
theorem Room.mono {j k : Nat} {A : Around} (r : Room k A) (h : j ≤ k) : Room j A := ⟨r.hd,by have := r.dp; omega,by have := r.un; omega,r.gd⟩
theorem Room.deeper {k : Nat} {A : Around} (r : Room (k + 1) A) (env : Env) : Room k (A.deeper env) :=
  ⟨r.hd,by have := r.dp; show A.depth + 1 + 3 * k + 5 < _; omega,by have := r.un; show A.units + 3 + 16 * k + 200 < _; omega,r.gd⟩
theorem Room.depth {k : Nat} {A : Around} (r : Room k A) : A.depth < recursionLimit := by have := r.dp; omega
theorem Room.units0 {k : Nat} {A : Around} (r : Room k A) : A.units < cLine := by have := r.un; omega
def tNil : TA := fun _ H Q => Q [] H
def tCons (ta : TE) (tr : TA) : TA := fun σ H Q => ta σ H fun x H1 => tr σ H1 fun xs H2 => Q (x :: xs) H2
section
variable {X : Cx} {e : Expr} {es : List Expr} {te : TE} {t : TA} {pos : Pos}
theorem pa_nil : PA X [] tNil := fun _ _ _ _ H Q I h => Calls.spliced_nil ⟨[],H,I,.nil,h⟩
theorem pa_cons (ha : PE X e te) (hr : PA X es t) (hs : starEach (e :: es) X.env = (false,eval e X.env) :: starEach es X.env := by rfl) : PA X (e :: es) (tCons te t) := by
  intro pos pins s σ H Q I h
  rw [hs]
  show wpAny _ _ (spliced ((false,eval e X.env) :: backTo pos (starEach es X.env))) _ _ s
  refine Calls.spliced_cons (thn (ha pins s σ H _ I h) fun u s1 ⟨x,H1,I1,r1,q1⟩ => ?_)
  exact thn (hr pos pins s1 σ H1 _ I1 q1) fun us s2 ⟨xs,H2,I2,r2,q2⟩ => ⟨x :: xs,H2,I2,.cons r1 r2,q2⟩
def tTup (t : TA) : TE := fun σ H Q => t σ H fun xs H1 => xs.length ≤ sizeLine ∧ ∀ p,H1 p = none → Q (.ref p) (upd H1 p (.tup xs))
theorem pe_tup {x1} (h : PA X es t) : PE X (.Tuple es x1 pos) (tTup t) := by
  intro pins s σ H Q I hq
  refine wpAny_Tuple_spliced (thn (h pos pins s σ H _ I hq) fun us s1 ⟨xs,H1,I1,r,z,q⟩ => ⟨by rw [← r.length]; exact z,?_⟩)
  have hf : H1 s1.heap.objs.size = none := I1.hok.fresh (Nat.le_refl _)
  refine ⟨.ref s1.heap.objs.size,upd H1 s1.heap.objs.size (.tup xs),I1.laid (t' := s1.toks) (fun b u e => Heap.get?_push_of_some _ e) (Nat.le_refl _) ?_,rfl,q _ hf⟩
  exact ⟨z,us,r,⟨_,Heap.get?_push_size _ rfl,rfl,_,rfl⟩⟩
end
abbrev Sp := List V → Hp → VK → XK → Prop
abbrev CXT := List Env → Hp → Shared → XK → Value → Shared → Prop
structure Env0 (P : Program) (w : World) (K : PySem.W.Frag) (mg : Str → Option Value) (base : Heap) (A : Around) (outer : List Env) (s : Shared) (H : Hp) : Prop where
  frames : A.frames = some outer
  mod : Mod K mg base
  bs : ∀ b o,base.get? b = some o → s.heap.get? b = some o ∧ H b = none
  bsz : base.objs.size ≤ s.heap.objs.size
  funs : s.heap.FunFrames base outer
  frf : ∀ b ∈ frs outer,H b = none
  hok : HOk P w H s.heap
  bare : AllBare s.gens
def CE (outer : List Env) (P : Program) (w : World) (H : Hp) (s : Shared) (Q : VK) (u : Value) (s' : Shared) : Prop :=
  ∃ v H',s'.os = s.os ∧ AllBare s'.gens ∧ Un (frs outer) [] H H' s.heap s'.heap ∧ HOk P w H' s'.heap ∧ RelV v u ∧ Q v H'
def CR (CX : CXT) (outer : List Env) (P : Program) (w : World) (H : Hp) (s : Shared) (Q : VK) (E : XK) (r : Result) (s' : Shared) : Prop :=
  match r with
  | .ok (.ret u) => CE outer P w H s Q u s'
  | .ok _ => False
  | .error e => CX outer H s E e s'
structure FnOk (P : Program) (w : World) (K : PySem.W.Frag) (mg : Str → Option Value) (base : Heap) (CX : CXT) (k : Nat) (f : Addr) (fd : FuncData) (ps : List Str) (sp : Sp) : Prop where
  len : ∀ vs H Q E,sp vs H Q E → vs.length = ps.length
  run : ∀ (A : Around) (outer : List Env) (s : Shared) (H : Hp) (args : Args) (us : List Value) (vs : List V) (Q : VK) (E : XK),Room k A → Env0 P w K mg base A outer s H → BindsTo s fd args (ps.zip us) → Vals vs us → sp vs H Q E →
    codeAny (model P w) A (.call (.ref f) args) (CR CX outer P w H s Q E) s
theorem FnOk.imp {P : Program} {w : World} {K : PySem.W.Frag} {mg : Str → Option Value} {base : Heap} {CX : CXT} {k : Nat} {f : Addr} {fd : FuncData} {ps : List Str} {sp sp' : Sp} (F : FnOk P w K mg base CX k f fd ps sp)
    (h : ∀ vs H Q E,sp' vs H Q E → sp vs H Q E) : FnOk P w K mg base CX k f fd ps sp' :=
  ⟨fun vs H Q E q => F.len vs H Q E (h _ _ _ _ q),fun A outer s H args us vs Q E hr he hb hv hs => F.run A outer s H args us vs Q E hr he hb hv (h _ _ _ _ hs)⟩
section
variable {X : Cx} {pins : List (Addr × Obj)} {σ : St} {H : Hp} {s s' : Shared}
theorem Inv.env0 (I : Inv X pins σ H s) : Env0 X.prog X.w X.K X.mg X.base X.A X.stack s H :=
  ⟨I.ok.frames,I.ok.mod,I.bs,Nat.le_trans I.ok.bsz I.sz,I.stack,I.stkFree,I.hok,I.bare⟩
theorem Inv.after {Q : VK} {u : Value} (I : Inv X pins σ H s) (h : CE X.stack X.prog X.w H s Q u s') : EP X pins σ Q u s' := by
  obtain ⟨v,H',os,bare,un,hok,r,q⟩ := h
  obtain ⟨hh,g,d,t,os'⟩ := s'
  obtain rfl : os' = s.os := os
  exact ⟨v,H',I.call (h' := hh) (g' := g) (d' := d) (t' := t) (ch := []) un hok bare (fun b z => absurd z (by simp)),r,q⟩
end
def tCall (sp : Sp) (dvs : List V) (E : XK) (t : TA) : TE := fun σ H Q => t σ H fun vs H1 => sp (vs ++ dvs) H1 Q E
def Binds (K : PySem.W.Frag) (fd : FuncData) (ps : List Str) (ds : List Value) : Prop :=
  ∀ (s : Shared) (us : List Value),K.In s.heap → (us ++ ds).length = ps.length → BindsTo s fd ⟨us,[]⟩ (ps.zip (us ++ ds))
theorem Binds.all {K : PySem.W.Frag} {fd : FuncData} {ps : List Str} (h : ∀ us : List Value,us.length = ps.length → bindArgs fd ⟨us,[]⟩ = pure (ps.zip us)) : Binds K fd ps [] := fun s us _ hl => by
  rw [List.append_nil] at hl ⊢
  exact .of_eq (h us hl)
def Passes (CX : CXT) (X : Cx) (E : XK) : Prop := ∀ (pins : List (Addr × Obj)) (σ : St) (H : Hp) (s : Shared) (e : Value) (s' : Shared),Inv X pins σ H s → CX X.stack H s E e s' → X.xe e s'
section
variable {X : Cx} {CX : CXT} {k : Nat} {f C : Addr} {fd : FuncData} {ps : List Str} {sp : Sp} {dvs : List V} {ds : List Value} {E : XK} {x m : Str} {p pos apos : Pos} {e o : Expr} {es : List Expr} {ta : TE} {t : TA}
theorem run_fn {pins : List (Addr × Obj)} {σ : St} {H : Hp} {s : Shared} {Q : VK} {us : List Value} {vs : List V} (F : FnOk X.prog X.w X.K X.mg X.base CX k f fd ps sp) (hr : Room k X.A) (hb : Binds X.K fd ps ds) (hd : Vals dvs ds) (hx : Passes CX X E)
    (I : Inv X pins σ H s) (r : Vals vs us) (h : sp (vs ++ dvs) H Q E) : wpAny (model X.prog X.w) X.A (call (.ref f) us) (EP X pins σ Q) X.xe s := by
  have r2 : Vals (vs ++ dvs) (us ++ ds) := r.append hd
  have hl : (us ++ ds).length = ps.length := by rw [← r2.length]; exact F.len _ _ _ _ h
  refine wpAny_call (codeAny_mono (F.run X.A X.stack s H ⟨us,[]⟩ (us ++ ds) (vs ++ dvs) Q E hr I.env0 (hb s us I.kIn hl) r2 h) fun r s' hq => ?_)
  cases r with
  | error e => exact hx pins σ H s e s' I hq
  | ok fl =>
    cases fl with
    | ret u => exact I.after hq
    | next => exact False.elim hq
    | brk => exact False.elim hq
    | cont => exact False.elim hq
theorem pe_call (F : FnOk X.prog X.w X.K X.mg X.base CX k f fd ps sp) (hr : Room k X.A) (hg : Gl X x) (hm : X.mg x = some (.ref f)) (hk : PySem.W.keepIn X.K (.ref f) = true) (hb : Binds X.K fd ps ds) (hd : Vals dvs ds) (hx : Passes CX X E)
    (ha : PA X (e :: es) t) (hdb : (x == ("__debug__" : Str)) = false := by decide) (he : starEach (e :: es) X.env = (false,eval e X.env) :: starEach es X.env := by rfl) (hpl : (backTo pos (starEach es X.env)).any (·.1) = false := by rfl) :
    PE X (.Call (.Name x p) (e :: es) [] pos) (tCall sp dvs E t) := by
  intro pins s σ H Q I h
  refine wpAny_Call_Name_kw (ld_glob I hg hm ?_ hdb)
  refine PySem.W.callWith_K (h₀ := X.base) I.ok.mod.kin hk (thn (ha pos pins s σ H _ I h) fun us s1 ⟨vs,H1,I1,r,q⟩ => ⟨I1.kIn,?_⟩) he hpl
  exact run_fn F hr hb hd hx I1 r q
end
section
variable {X : Cx} {CX : CXT} {k : Nat} {f C : Addr} {fd : FuncData} {ps ks : List Str} {sp : Sp} {E : XK} {x m : Str} {p pos apos kpos : Pos} {e o : Expr} {es : List Expr} {kws : List Keyword} {te ta : TE} {t tk : TA} {nm : Option Str}
variable {g : List Value → List Value → List Value} {gV : List V → List V → List V}
end
structure FnScope (N P : List Str) (sc : Scope) : Prop where
  kind : sc.kind = .function
  co : sc.isCoroutine = false
  gen : sc.isGenerator = false
  nd : N.Nodup
  pre : N.take P.length = P
  par : ∀ x ∈ P,sc.names.lookup x = some .local ∨ sc.names.lookup x = some .cell
  nofree : ∀ y ∈ sc.names,y.2 ≠ .free
theorem bindL_out {kindOf : Str → Option NameKind} {x : Str} : ∀ {binds : List (Str × Value)} {m : Str → Option Value},(∀ v,(x,v) ∉ binds) → bindL kindOf binds m x = m x
  | [],_,_ => rfl
  | (n,v) :: r,m,h => by
    unfold bindL
    rw [bindL_out fun w hw => h w (List.mem_cons_of_mem _ hw)]
    split
    · have : x ≠ n := by rintro rfl; exact h v List.mem_cons_self
      simp [this]
    · rfl
theorem bindC_out {kindOf : Str → Option NameKind} {x : Str} : ∀ {binds : List (Str × Value)} {m : Str → Option Value},(∀ v,(x,v) ∉ binds) → bindC kindOf binds m x = m x
  | [],_,_ => rfl
  | (n,v) :: r,m,h => by
    unfold bindC
    rw [bindC_out fun w hw => h w (List.mem_cons_of_mem _ hw)]
    split
    · rfl
    · have : x ≠ n := by rintro rfl; exact h v List.mem_cons_self
      simp [this]
theorem bindL_get {kindOf : Str → Option NameKind} {x : Str} {v : Value} : ∀ {P : List Str} {vs : List Value} {i : Nat} {m : Str → Option Value},P.Nodup → P[i]? = some x → vs[i]? = some v → kindOf x = some .local →
    bindL kindOf (P.zip vs) m x = some v
  | [],_,_,_,_,h,_,_ => by simp at h
  | _ :: _,[],_,_,_,_,h,_ => by simp at h
  | p :: P,w :: vs,0,m,nd,h1,h2,hk => by
    simp at h1 h2; subst h1; subst h2
    show bindL kindOf ((p,w) :: P.zip vs) m p = _
    unfold bindL
    rw [bindL_out fun v hv => (List.nodup_cons.mp nd).1 (List.of_mem_zip hv).1,if_pos hk]
    simp
  | p :: P,w :: vs,i + 1,m,nd,h1,h2,hk => by
    show bindL kindOf ((p,w) :: P.zip vs) m x = _
    unfold bindL
    exact bindL_get (i := i) (List.nodup_cons.mp nd).2 (by simpa using h1) (by simpa using h2) hk
theorem bindC_get {kindOf : Str → Option NameKind} {x : Str} {v : Value} : ∀ {P : List Str} {vs : List Value} {i : Nat} {m : Str → Option Value},P.Nodup → P[i]? = some x → vs[i]? = some v → kindOf x ≠ some .local →
    bindC kindOf (P.zip vs) m x = some v
  | [],_,_,_,_,h,_,_ => by simp at h
  | _ :: _,[],_,_,_,_,h,_ => by simp at h
  | p :: P,w :: vs,0,m,nd,h1,h2,hk => by
    simp at h1 h2; subst h1; subst h2
    show bindC kindOf ((p,w) :: P.zip vs) m p = _
    unfold bindC
    rw [bindC_out fun v hv => (List.nodup_cons.mp nd).1 (List.of_mem_zip hv).1,if_neg hk]
    simp
  | p :: P,w :: vs,i + 1,m,nd,h1,h2,hk => by
    show bindC kindOf ((p,w) :: P.zip vs) m x = _
    unfold bindC
    exact bindC_get (i := i) (List.nodup_cons.mp nd).2 (by simpa using h1) (by simpa using h2) hk
def start (N : List Str) (vs : List V) : St := vs.map some ++ List.replicate (N.length - vs.length) none
def cxOf (CX : CXT) (P : Program) (w : World) (K : PySem.W.Frag) (mg : Str → Option Value) (base : Heap) (N : List Str) (qual : Str) (scope : Scope) (f : Addr) (cd : Value) (A : Around) (outer : List Env) (s : Shared) (H : Hp) (E : XK) : Cx where
  prog := P
  w := w
  K := K
  mg := mg
  base := base
  A := A.deeper (envOfC qual scope s.heap.objs.size f cd)
  N := N
  s₀ := s
  H₀ := H
  env := envOfC qual scope s.heap.objs.size f cd
  outer := outer
  stack := envOfC qual scope s.heap.objs.size f cd :: outer
  ex := []
  calm := true
  fn := fun _ => true
  pn := []
  xe := fun e s' => wpAny (model P w) (A.deeper (envOfC qual scope s.heap.objs.size f cd)) (leaving (envOfC qual scope s.heap.objs.size f cd) e) (fun _ s'' => CX outer H s E e s'') (fun e' s'' => CX outer H s E e' s'') s'
theorem cell_has {sc : Scope} {n : Nat} {x : Str} (h : sc.names.lookup x = some .cell) : ∃ c,(cellsFrom n sc.names []).lookup x = some c := by
  have q := PySem.W.cellsFrom_some sc.names n [] (.inl h)
  exact Option.isSome_iff_exists.mp q
theorem inv_start {CX : CXT} {P : Program} {w : World} {K : PySem.W.Frag} {mg : Str → Option Value} {base : Heap} {N ps : List Str} {qual : Str} {scope : Scope} {f : Addr} {cd : Value} {A : Around} {outer : List Env} {s s1 : Shared} {H : Hp} {E : XK} {us : List Value} {vs : List V}
    (S : FnScope N ps scope) (hd : A.handled = none) (e0 : Env0 P w K mg base A outer s H) (hl : vs.length = ps.length) (r : Vals vs us)
    (x : InCallC s s.heap.objs.size (bindL (envOfC qual scope s.heap.objs.size f cd).kindOf (ps.zip us) fun _ => none) (cellsFrom (s.heap.objs.size + 1) scope.names []) (bindC (envOfC qual scope s.heap.objs.size f cd).kindOf (ps.zip us) fun _ => none) s1) :
    Inv (cxOf CX P w K mg base N qual scope f cd A outer s H E) [] (start N vs) H s1 := by
  have hpl : ps.length ≤ N.length := by have := congrArg List.length S.pre; rw [List.length_take] at this; omega
  obtain ⟨h1,tk,rfl,hk⟩ := x.done
  have noA : ∀ b : Addr,b ∉ (cxOf CX P w K mg base N qual scope f cd A outer s H E).ex := fun b z => absurd (show b ∈ ([] : List Addr) from z) (by simp)
  refine ⟨⟨e0.mod,S.kind,rfl,rfl,Nat.le_refl _,fun y z c h1 h2 => ?_,fun y hy => ?_,fun y c _ h => ?_,fun _ => hd,Around.frames_deeper e0.frames,.inr ⟨rfl,rfl⟩,fun b z => absurd z (noA b),e0.bs,e0.bsz,fun b _ _ => noA b,fun b z => absurd z (noA b),e0.funs,e0.frf⟩,
    rfl,e0.bare,Un.kept hk,⟨_,x.toInCall.ns,fun i y v h1 h2 h3 => ?_⟩,fun y c h => ⟨_,x.cell y c h⟩,e0.hok.fresh (Nat.le_refl _),fun y c h => ?_,fun p hp => absurd (show p ∈ ([] : List (Addr × Obj)) from hp) (by simp),e0.hok.kept hk,?_⟩
  · exact name_of_addr x.apart (PySem.mem_of_lookup h1) (PySem.mem_of_lookup h2)
  · have hy : scope.names.lookup y = some .cell ∨ scope.names.lookup y = some .free := hy
    rcases hy with hy | hy
    · exact cell_has hy
    · exact absurd rfl (S.nofree _ (PySem.mem_of_lookup hy))
  · exact Nat.le_of_lt (x.above y c (PySem.mem_of_lookup h))
  · have hi : i < vs.length := by
      unfold start at h2
      by_cases hi : i < vs.length
      · exact hi
      · rw [List.getElem?_append_right (by simpa using hi)] at h2
        rw [List.getElem?_replicate] at h2
        split at h2 <;> cases h2
    have ha : vs[i]? = some v := by
      unfold start at h2
      rw [List.getElem?_append_left (by simpa using hi),List.getElem?_map] at h2
      cases e : vs[i]? with
      | none => rw [e] at h2; cases h2
      | some a => rw [e] at h2; cases h2; rfl
    obtain ⟨u,hu,rv⟩ := r.get ha
    have hp : ps[i]? = some y := by
      rw [← S.pre,List.getElem?_take_of_lt (by omega)]; exact h1
    have ndP : ps.Nodup := by rw [← S.pre]; exact S.nd.sublist (List.take_sublist _ _)
    refine ⟨u,rv,?_⟩
    rcases S.par y (List.mem_of_getElem? hp) with k | k
    · exact .inl ⟨k,bindL_get ndP hp hu k⟩
    · obtain ⟨c,e⟩ := cell_has (n := s.heap.objs.size + 1) k
      refine .inr ⟨.inl k,c,e,?_⟩
      have q := x.cell y c e
      rw [bindC_get ndP hp hu (by show scope.names.lookup y ≠ _; rw [k]; decide)] at q
      exact q
  · exact e0.hok.fresh (Nat.le_of_lt (x.above y c (PySem.mem_of_lookup h)))
  · unfold start
    show _ = N.length
    rw [List.length_append,List.length_map,List.length_replicate]
    omega
theorem fn_of {CX : CXT} {P : Program} {w : World} {K : PySem.W.Frag} {mg : Str → Option Value} {base : Heap} {k : Nat} {f : Addr} {name qual : Str} {params : Arguments} {body : List Stmt} {scope : Scope} {dV kV doc pm cdv ct oc : Value} {an od : Option Addr}
    {osl : Array (Option Value)} {N ps : List Str} {sp : Sp} (lk : K.lookup f = some ⟨oc,od,.func (PySem.W.fnOf name qual params body scope dV kV doc pm an cdv ct),osl⟩) (hcd : PySem.W.codeIn K cdv qual = true) (S : FnScope N ps scope)
    (len : ∀ vs H Q E,sp vs H Q E → vs.length = ps.length)
    (hbody : ∀ (A : Around) (outer : List Env) (s : Shared) (H : Hp) (vs : List V) (Q : VK) (E : XK),Room k (A.deeper (envOfC qual scope s.heap.objs.size f cdv)) → sp vs H Q E →
      ∃ t,PSs (cxOf CX P w K mg base N qual scope f cdv A outer s H E) body t ∧ t { nx := fun _ H' => Q .non H',rt := Q } (start N vs) H) :
    FnOk P w K mg base CX (k + 1) f (PySem.W.fnOf name qual params body scope dV kV doc pm an cdv ct) ps sp := by
  refine ⟨len,fun A outer s H args us vs Q E hr e0 hb r hsp => ?_⟩
  have hl := len _ _ _ _ hsp
  have KX : K.In s.heap := e0.mod.kin.keeps fun b o e => (e0.bs b o e).1
  have lim : s.heap.NoLimit := e0.mod.nolimit.keeps fun b o e => (e0.bs b o e).1
  have hkind : ∀ y ∈ ps.zip us,scope.names.lookup y.1 = some .local ∨ (scope.names.lookup y.1 = some .cell ∧ ((cellsFrom (s.heap.objs.size + 1) scope.names []).lookup y.1).isSome = true) := fun ⟨n,v⟩ hy => by
    rcases S.par n (List.of_mem_zip hy).1 with q | q
    · exact .inl q
    · exact .inr ⟨q,PySem.W.cellsFrom_some _ _ _ (.inl q)⟩
  refine codeAny_call_function hr.depth (KX _ _ lk) rfl S.co S.gen rfl (PySem.W.codeRec_of KX hcd) (hb _ _ _ _ ?_)
  refine wpAny_newFunctionEnv_cells S.kind hkind fun env he s1 x => ?_
  subst he
  refine ⟨lim.keeps x.toInCall.keep,codeAny_func ?_⟩
  obtain ⟨t,ht,hq⟩ := hbody A outer s H vs Q E (hr.deeper _) hsp
  have I : Inv (cxOf CX P w K mg base N qual scope f cdv A outer s H E) [] (start N vs) H s1 := inv_start S hr.hd e0 hl r x
  refine wpAny_mono (ht [] s1 (start N vs) H _ I hq) (fun fl s' hs => ?_) fun e s' hs => hs
  have fin : ∀ {σ' : St} {H' : Hp} {v : V} {u : Value},Inv (cxOf CX P w K mg base N qual scope f cdv A outer s H E) [] σ' H' s' → RelV v u → Q v H' → CE outer P w H s Q u s' :=
    fun {σ' H' v u} J rv q => ⟨v,H',J.os,J.bare,J.base,J.hok,rv,q⟩
  cases fl with
  | ret u =>
    obtain ⟨v,σ',H',J,rv,q⟩ := hs
    exact fin J rv q
  | next =>
    obtain ⟨σ',H',J,q⟩ := hs
    exact fin (v := V.non) (u := Value.none) J rfl q
  | brk =>
    obtain ⟨_,_,_,q⟩ := hs
    exact False.elim q
  | cont =>
    obtain ⟨_,_,_,q⟩ := hs
    exact False.elim q
end L2
namespace L2
open PySem PySem.Spec PyProof.Rows
section
variable {X : Cx} {x : Str} {p pos : Pos} {e : Expr} {es : List Expr} {t : TA} {id T : String} {r : List V → Hp → VK → Prop}
def tCB (r : List V → Hp → VK → Prop) (t : TA) : TE := fun σ H Q => t σ H fun vs H1 => r vs H1 Q
theorem pe_callB (hc : CallR X (.builtin id) r) (hg : Gl X x) (hm : X.mg x = none) (hv : bootBuiltins x = some (.builtin id)) (ha : PA X (e :: es) t) (hn : x ≠ "__name__" := by decide) (hdb : (x == ("__debug__" : Str)) = false := by decide)
    (he : starEach (e :: es) X.env = (false,eval e X.env) :: starEach es X.env := by rfl) (hpl : (backTo pos (starEach es X.env)).any (·.1) = false := by rfl) : PE X (.Call (.Name x p) (e :: es) [] pos) (tCB r t) := by
  intro pins s σ H Q I h
  refine wpAny_Call_Name_kw (ld_blt I hg hm hv ?_ hn hdb)
  exact PyProof.Rows.callWith_builtin1 (thn (ha pos pins s σ H _ I h) fun us s1 ⟨vs,H1,I1,r1,q1⟩ => hc pins s1 σ H1 vs us Q I1 r1 q1) he hpl
theorem pe_callTy (hc : CallR X (.type T) r) (hg : Gl X x) (hm : X.mg x = none) (hv : bootBuiltins x = some (.type T)) (ha : PA X (e :: es) t) (hn : x ≠ "__name__" := by decide) (hdb : (x == ("__debug__" : Str)) = false := by decide)
    (he : starEach (e :: es) X.env = (false,eval e X.env) :: starEach es X.env := by rfl) (hpl : (backTo pos (starEach es X.env)).any (·.1) = false := by rfl) : PE X (.Call (.Name x p) (e :: es) [] pos) (tCB r t) := by
  intro pins s σ H Q I h
  refine wpAny_Call_Name_kw (ld_blt I hg hm hv ?_ hn hdb)
  exact PyProof.Rows.callWith_type1 (thn (ha pos pins s σ H _ I h) fun us s1 ⟨vs,H1,I1,r1,q1⟩ => hc pins s1 σ H1 vs us Q I1 r1 q1) he hpl
end
end L2
namespace HT
open PySem PyProof.Rows
section
open PySem.SeqAt
open PySem.AutoSeq1 (wpAny_loadPart')
open PySem.MeetsSeq PySem.MeetsSeq2 PySem.MeetsSeq3
end
section
variable {prog : Program} {w : World} {A : Around} {E : Value → Shared → Prop} {s : Shared}
def sIx (n d : Nat) : Option Int → Nat
  | none => d
  | some v => if v < 0 then (v + (n : Int)).toNat else min v.toNat n
theorem sIx_none (n d : Nat) : sIx n d none = d := rfl
theorem sIx_nat (n d k : Nat) : sIx n d (some (k : Int)) = min k n := by
  show (if (k : Int) < 0 then ((k : Int) + (n : Int)).toNat else min (k : Int).toNat n) = min k n
  rw [if_neg (by omega),Int.toNat_natCast]
end
end HT
namespace L2
open PySem PySem.Spec PyProof.Rows
abbrev TO := St → Hp → (Option Int → Hp → Prop) → Prop
def PO (X : Cx) (e : Option Expr) (t : TO) : Prop :=
  ∀ (pins : List (Addr × Obj)) (s : Shared) (σ : St) (H : Hp) (Q : Option Int → Hp → Prop),Inv X pins σ H s → t σ H Q →
    wpAny (model X.prog X.w) X.A (evalPart e X.env) (fun u s' => ∃ o H',Inv X pins σ H' s' ∧ IsPart u o ∧ Q o H') X.xe s
def tNoPart : TO := fun _ H Q => Q none H
def tPart (t : TE) : TO := fun σ H Q => t σ H fun x H1 => ∃ i,x = .int i ∧ Q (some i) H1
section
variable {X : Cx} {e : Expr} {te : TE} {lo hi : Option Expr} {tl th : TO} {pos p2 : Pos}
theorem po_none : PO X none tNoPart := by
  intro pins s σ H Q I h
  rw [evalPart_none]
  exact wpAny_pure ⟨none,H,I,.none,h⟩
theorem po_some (h : PE X e te) : PO X (some e) (tPart te) := by
  intro pins s σ H Q I hw
  rw [evalPart_some]
  refine thn (h pins s σ H _ I hw) fun u s1 ⟨x,H1,I1,r1,q1⟩ => ?_
  obtain ⟨i,rfl,q⟩ := q1
  obtain ⟨t,rfl⟩ := r1
  exact ⟨some i,H1,I1,.int i t,q⟩
def SlR (X : Cx) (r : V → Option Int → Option Int → Hp → VK → Prop) : Prop :=
  ∀ (pins : List (Addr × Obj)) (s : Shared) (σ : St) (H : Hp) (x : V) (v vl vu : Value) (lo hi : Option Int) (sl : Addr) (Q : VK),Inv X pins σ H s → RelV x v → s.heap.IsSliceOf sl vl vu .none → IsPart vl lo → IsPart vu hi → r x lo hi H Q →
    ∃ T id,typeLookup (.type T) "__getitem__" = pure (some (.builtin id)) ∧ s.TypeIs v T ∧ wpAny (model X.prog X.w) X.A (getItem v (.ref sl)) (EP X pins σ Q) X.xe s
def tSl (r : V → Option Int → Option Int → Hp → VK → Prop) (te : TE) (tl th : TO) : TE := fun σ H Q => te σ H fun x H1 => tl σ H1 fun l H2 => th σ H2 fun u H3 => r x l u H3 Q
theorem pe_slice {r : V → Option Int → Option Int → Hp → VK → Prop} (hr : SlR X r) (he : PE X e te) (hl : PO X lo tl) (hu : PO X hi th) : PE X (.Subscript e (.Slice lo hi none p2) pos) (tSl r te tl th) := by
  intro pins s σ H Q I h
  refine Subscript_ (thn (he pins s σ H _ I h) fun v s1 ⟨x,H1,I1,r1,q1⟩ => ?_)
  refine wpAny_Slice (thn (hl pins s1 σ H1 _ I1 q1) fun vl s2 ⟨l,H2,I2,pl,q2⟩ => thn (hu pins s2 σ H2 _ I2 q2) fun vu s3 ⟨u,H3,I3,pu,q3⟩ => ?_)
  rw [evalPart_none]
  refine wpAny_pure ?_
  have I4 : Inv X pins σ H3 { s3 with heap := s3.heap.push { cls := .type "slice",data := .fields #[vl,vu,.none] } } := I3.kept (t' := s3.toks) fun b ob q => Heap.get?_push_of_some _ q
  obtain ⟨T,id,hT,ht,hg⟩ := hr pins { s3 with heap := s3.heap.push { cls := .type "slice",data := .fields #[vl,vu,.none] } } σ H3 x v vl vu l u s3.heap.objs.size Q I4 r1 (Heap.IsSliceOf.new ..) pl pu q3
  show wpAny (model X.prog X.w) X.A (subscriptTail e (.Slice lo hi none p2) v (.ref s3.heap.objs.size)) (EP X pins σ Q) X.xe { s3 with heap := s3.heap.push { cls := .type "slice",data := .fields #[vl,vu,.none] } }
  exact tail_any (ops := [.ref s3.heap.objs.size,v]) ht hT hg (by with_unfolding_all rfl)
def cutV (xs : List V) (lo hi : Option Int) : List V := (xs.drop (HT.sIx xs.length 0 lo)).take (HT.sIx xs.length xs.length hi - HT.sIx xs.length 0 lo)
theorem cutV_length (xs : List V) (lo hi : Option Int) : (cutV xs lo hi).length ≤ xs.length := by
  unfold cutV
  rw [List.length_take,List.length_drop]
  omega
end
end L2
namespace L2
open PySem PySem.Spec PyProof.Rows
def ixN (n : Nat) (i : Int) : Option Nat := if 0 ≤ i then (if i < n then some i.toNat else none) else if -(n : Int) ≤ i then some (i + n).toNat else none
def atI {α : Type} (xs : List α) (i : Int) : Option α := (ixN xs.length i).bind fun j => xs[j]?
theorem ixN_seq {n : Nat} {i : Int} {j : Nat} (h : ixN n i = some j) : seqIndex? i n = some j ∧ j < n ∧ -(n : Int) ≤ i ∧ i < n := by
  unfold ixN at h
  by_cases h0 : 0 ≤ i
  · rw [if_pos h0] at h
    by_cases h1 : i < n
    · rw [if_pos h1] at h
      have e : i.toNat = j := Option.some.inj h
      exact ⟨by rw [seqIndex_of h0 h1,e],by omega,by omega,h1⟩
    · rw [if_neg h1] at h; cases h
  · rw [if_neg h0] at h
    by_cases h1 : -(n : Int) ≤ i
    · rw [if_pos h1] at h
      have e : (i + n).toNat = j := Option.some.inj h
      exact ⟨by rw [seqIndex_neg (by omega) h1,e],by omega,h1,by omega⟩
    · rw [if_neg h1] at h; cases h
theorem atI_get {α : Type} {xs : List α} {i : Int} {v : α} (h : atI xs i = some v) : ∃ j,seqIndex? i xs.length = some j ∧ xs[j]? = some v ∧ j < xs.length ∧ -(xs.length : Int) ≤ i ∧ i < xs.length := by
  unfold atI at h
  cases e : ixN xs.length i with
  | none => rw [e] at h; cases h
  | some j =>
    rw [e] at h
    obtain ⟨h1,h2,h3,h4⟩ := ixN_seq e
    exact ⟨j,h1,h,h2,h3,h4⟩
theorem atI_nat {α : Type} {xs : List α} {j : Nat} {v : α} (h : xs[j]? = some v) : atI xs (j : Int) = some v := by
  have hj : j < xs.length := (List.getElem?_eq_some_iff.mp h).1
  have e : ixN xs.length (j : Int) = some j := by
    unfold ixN
    rw [if_pos (by omega),if_pos (by omega)]; simp
  unfold atI; rw [e]; exact h
theorem atI_last {α : Type} (xs : List α) (v : α) : atI (xs ++ [v]) (-1) = some v := by
  have hl : (xs ++ [v]).length = xs.length + 1 := by simp
  have e : ixN (xs ++ [v]).length (-1) = some xs.length := by
    unfold ixN
    rw [hl,if_neg (by decide),if_pos (by omega)]
    congr 1
    omega
  unfold atI
  rw [e]
  show (xs ++ [v])[xs.length]? = some v
  simp
def PlainIx (b : Expr) : Prop := ∀ o i,subscripted b false o i = operate [o,i] (getItem o i)
def IxR (X : Cx) (r : R2) : Prop :=
  ∀ (value slice : Expr) (pins : List (Addr × Obj)) (s : Shared) (σ : St) (H : Hp) (x y : V) (v u : Value) (Q : VK),Inv X pins σ H s → RelV x v → RelV y u → r x y H Q →
    subscripted slice false v u = operate [v,u] (getItem v u) → wpAny (model X.prog X.w) X.A (subscriptTail value slice v u) (EP X pins σ Q) X.xe s
def MtR (X : Cx) (id : String) (r : V → List V → Hp → VK → Prop) : Prop :=
  ∀ (pins : List (Addr × Obj)) (s : Shared) (σ : St) (H : Hp) (x : V) (xs : List V) (v : Value) (us : List Value) (Q : VK),Inv X pins σ H s → RelV x v → Vals xs us → r x xs H Q →
    wpAny (model X.prog X.w) X.A (call (.builtin id) (v :: us)) (EP X pins σ Q) X.xe s
section
variable {X : Cx} {a b : Expr} {ta tb : TE} {pos : Pos}
theorem pe_ix {r : R2} (hr : IxR X r) (ha : PE X a ta) (hb : PE X b tb) (hs : PlainIx b) : PE X (.Subscript a b pos) (tOp r ta tb) := by
  intro pins s σ H Q I h
  exact Subscript_ (binT ha hb I h fun v u s2 x y H2 I2 rx ry q => hr a b pins s2 σ H2 x y v u Q I2 rx ry q (hs _ _))
inductive rIxL (K : PySem.W.Frag) (x y : V) (H : Hp) (Q : VK) : Prop
  | mk (p : Addr) (xs : List V) (i : Int) (v : V) (e : x = .ref p) (f : y = .int i) (s : SqL K H p xs) (a : atI xs i = some v) (q : Q v H) : rIxL K x y H Q
inductive rIxT (K : PySem.W.Frag) (x y : V) (H : Hp) (Q : VK) : Prop
  | mk (p : Addr) (xs : List V) (i : Int) (v : V) (e : x = .ref p) (f : y = .int i) (s : SqT K H p xs) (a : atI xs i = some v) (q : Q v H) : rIxT K x y H Q
theorem ix_list : IxR X (rIxL X.K) := by
  intro value slice pins s σ H x y v u Q I rx ry h hs
  obtain ⟨p,xs,i,z,rfl,rfl,hq,he,q⟩ := h
  cases rx
  obtain ⟨t,rfl⟩ := ry
  obtain ⟨its,r,pl,hz⟩ := I.list hq
  obtain ⟨j,h1,h2,h3,h4,h5⟩ := atI_get he
  obtain ⟨w,ew,rw'⟩ := r.get h2
  have hl := r.length
  have hn := line63
  have fin : EP X pins σ Q w s := ⟨z,H,I,rw',q⟩
  by_cases h0 : 0 ≤ i
  · have hj : i.toNat = j := by
      rw [seqIndex_of h0 h5] at h1
      exact Option.some.inj h1
    exact item_listR pl.isList h0 (by omega) (by rw [hj]; simpa using ew) fin hs
  · have hj : (i + (its.toArray.size : Int)).toNat = j := by
      rw [seqIndex_neg (by omega) h4] at h1
      rw [List.size_toArray,← hl]
      exact Option.some.inj h1
    exact subscriptTail_builtinR (x := w) pl.isList.typeIs slot_list_getitem.lookup
      (wpAny_getItem_list_neg (Q := fun r s' => r = w ∧ EP X pins σ Q r s') pl.isList (by omega) (by rw [List.size_toArray] <;> omega) (by omega) (by rw [hj]; simpa using ew) ⟨rfl,fin⟩) hs
theorem ix_tup : IxR X (rIxT X.K) := by
  intro value slice pins s σ H x y v u Q I rx ry h hs
  obtain ⟨p,xs,i,z,rfl,rfl,hq,he,q⟩ := h
  cases rx
  obtain ⟨t,rfl⟩ := ry
  obtain ⟨its,r,pl,hz⟩ := I.tuple hq
  obtain ⟨j,h1,h2,h3,h4,h5⟩ := atI_get he
  obtain ⟨w,ew,rw'⟩ := r.get h2
  have hl := r.length
  have hn := line63
  have fin : EP X pins σ Q w s := ⟨z,H,I,rw',q⟩
  exact subscriptTail_builtinR (x := w) pl.typeIs slot_tuple_getitem.lookup
    (getItem_tuple (j := j) (Q := fun r s' => r = w ∧ EP X pins σ Q r s') pl (by omega) (by omega) (by rw [List.size_toArray,← hl]; exact h1) (by simpa using ew) ⟨rfl,fin⟩) hs
theorem mapSeq_set (its : List Value) (n j : Nat) (u : Value) : Obj.mapSeq (·.setIfInBounds j u) { cls := .type "list",data := .seq its.toArray n } = { cls := .type "list",data := .seq (its.set j u).toArray n } := by
  simp [Obj.mapSeq]
theorem Inv.lst {pins : List (Addr × Obj)} {σ : St} {H : Hp} {s : Shared} {p : Addr} {xs : List V} (I : Inv X pins σ H s) (h : H p = some (.lst xs)) :
    ∃ (its : List Value) (n : Nat),Vals xs its ∧ s.heap.get? p = some { cls := .type "list",data := .seq its.toArray n } ∧ xs.length ≤ sizeLine := by
  obtain ⟨z,its,n,r,e⟩ := I.hok p _ h
  exact ⟨its,n,r,e,z⟩
theorem Inv.lstUpd {pins : List (Addr × Obj)} {σ : St} {H : Hp} {s : Shared} {p : Addr} {xs ys : List V} {its its' : List Value} {n n' : Nat} {f : Obj → Obj} (I : Inv X pins σ H s) (h : H p = some (.lst xs))
    (ho : s.heap.get? p = some { cls := .type "list",data := .seq its.toArray n }) (hf : f { cls := .type "list",data := .seq its.toArray n } = { cls := .type "list",data := .seq its'.toArray n' }) (r : Vals ys its') (hz : ys.length ≤ sizeLine) (t : Nat) :
    Inv X pins σ (upd H p (.lst ys)) { s with heap := s.heap.update p f,toks := t } := by
  have e : (s.heap.update p f).get? p = some { cls := .type "list",data := .seq its'.toArray n' } := by
    rw [Heap.get?_update_self f ho (by rw [hf] <;> rfl),hf]
  refine I.write (x := p) (e := p) (by rw [h]; trivial) (.inl rfl) (fun b u hb q => (Heap.get?_update_other _ _ (Ne.symm hb)).trans q) ⟨_,e⟩ ?_
  exact ⟨hz,its',n',r,e⟩
def rSetL : V → V → V → Hp → (Hp → Prop) → Prop := fun o i v H Q => ∃ p xs k j,o = .ref p ∧ i = .int k ∧ H p = some (.lst xs) ∧ ixN xs.length k = some j ∧ Q (upd H p (.lst (xs.set j v)))
theorem set_list : PSet X rSetL := by
  intro pins s σ H o i v ov iv u Q I ro ri rv h
  obtain ⟨p,xs,k,j,rfl,rfl,hp,hj,q⟩ := h
  cases ro
  obtain ⟨t,rfl⟩ := ri
  obtain ⟨its,n,r,ho,hz⟩ := I.lst hp
  obtain ⟨h1,h2,h3,h4⟩ := ixN_seq hj
  have hl := r.length
  have hn := line63
  have I' : Inv X pins σ (upd H p (.lst (xs.set j v))) { s with heap := s.heap.update p (Obj.mapSeq (·.setIfInBounds j u)) } :=
    I.lstUpd hp ho (mapSeq_set its n j u) (r.set rv j) (by rw [List.length_set]; exact hz) s.toks
  by_cases h0 : 0 ≤ k
  · have hk : k.toNat = j := by
      rw [seqIndex_of h0 h4] at h1
      exact Option.some.inj h1
    exact PySem.W.ki_setAt ho h0 (by omega) (by rw [List.size_toArray,← hl]; exact h4) (by rw [hk]; exact ⟨_,I',q⟩)
  · have hk : (k + (its.toArray.size : Int)).toNat = j := by
      rw [seqIndex_neg (by omega) h3] at h1
      rw [List.size_toArray,← hl]
      exact Option.some.inj h1
    exact PySem.W.ki_setBack ho (by omega) (by rw [List.size_toArray,← hl]; exact h3) (by omega) (by rw [hk]; exact ⟨_,I',q⟩)
theorem slice_bounds (lo hi : Option Int) (n : Nat) : (sliceBounds lo hi none n).1 = ((HT.sIx n 0 lo : Nat) : Int) ∧ (sliceBounds lo hi none n).2.1 = ((HT.sIx n n hi : Nat) : Int) ∧ (sliceBounds lo hi none n).2.2 = 1 := by
  refine ⟨?_,?_,rfl⟩
  · cases lo with
    | none => simp [sliceBounds,HT.sIx]
    | some i =>
      simp only [sliceBounds,HT.sIx,Option.getD_none,show (1 : Int) > 0 by decide,if_true]
      by_cases h : i < 0
      · simp only [h,if_true] <;> omega
      · simp only [h,if_false] <;> omega
  · cases hi with
    | none => simp [sliceBounds,HT.sIx]
    | some i =>
      simp only [sliceBounds,HT.sIx,Option.getD_none,show (1 : Int) > 0 by decide,if_true]
      by_cases h : i < 0
      · simp only [h,if_true] <;> omega
      · simp only [h,if_false] <;> omega
theorem slicePick_cut (its : List Value) (lo hi : Option Int) : slicePick its.toArray lo hi none = ((its.drop (HT.sIx its.length 0 lo)).take (HT.sIx its.length its.length hi - HT.sIx its.length 0 lo)).toArray := by
  obtain ⟨h1,h2,h3⟩ := slice_bounds lo hi its.toArray.size
  unfold slicePick
  rw [h1,h2,h3]
  simp only [sliceRange_one,pick_run,List.size_toArray] <;> rfl
def rSlL (K : PySem.W.Frag) : V → Option Int → Option Int → Hp → VK → Prop := fun x lo hi H Q => ∃ a xs,x = .ref a ∧ SqL K H a xs ∧ ∀ p,H p = none → Q (.ref p) (upd H p (.lst (cutV xs lo hi)))
theorem sl_list : SlR X (rSlL X.K) := by
  intro pins s σ H x v vl vu lo hi sl Q I rx hs pl pu h
  obtain ⟨a,xs,rfl,hx,q⟩ := h
  cases rx
  obtain ⟨its,r,ht,hz⟩ := I.list hx
  have hlen := r.length
  refine ⟨"list",_,slot_list_getitem.lookup,ht.isList.typeIs,?_⟩
  refine wpAny_getItem_list_slice ht.isList hs pl pu .none (by simp) ?_ (by rw [List.size_toArray] <;> omega)
  rw [slicePick_cut,← hlen]
  refine ⟨.ref s.heap.objs.size,_,I.laid (t' := s.toks) (o := .lst (cutV xs lo hi)) (fun b ob q => Heap.get?_push_of_some _ q) (Nat.le_refl _) ?_,rfl,q _ (I.hok.fresh (Nat.le_refl _))⟩
  exact ⟨Nat.le_trans (cutV_length xs lo hi) hz,_,0,(r.drop (HT.sIx xs.length 0 lo)).take (HT.sIx xs.length xs.length hi - HT.sIx xs.length 0 lo),Heap.get?_push_size _ rfl⟩
def flatV : V → Bool
  | .non => true
  | .bl _ => true
  | .int _ => true
  | .str _ => true
  | _ => false
def eqV : V → V → Bool
  | .non,.non => true
  | .bl a,.bl b => a == b
  | .bl a,.int b => (if a then 1 else 0) == b
  | .int a,.bl b => a == (if b then 1 else 0)
  | .int a,.int b => a == b
  | .str a,.str b => a == b
  | _,_ => false
theorem eqAt_V {A : Around} {s : Shared} {y x : V} {u v : Value} (ry : RelV y u) (rx : RelV x v) (fy : flatV y = true) (fx : flatV x = true) : SeqAt.EqAt A s u v (eqV y x) := by
  cases y with
  | non =>
    cases ry
    cases x with
    | non => cases rx; exact SeqAt.EqAt.same _
    | bl b => cases rx; exact SeqAt.EqAt.none_bool b
    | int b => obtain ⟨t,rfl⟩ := rx; exact SeqAt.EqAt.none_int b t
    | str b => obtain ⟨t,rfl⟩ := rx; exact SeqAt.EqAt.none_str b t
    | _ => exact absurd (show false = true from fx) Bool.false_ne_true
  | bl a =>
    cases ry
    cases x with
    | non => cases rx; exact SeqAt.EqAt.bool_none a
    | bl b => cases rx; exact SeqAt.EqAt.bool_bool a b
    | int b => obtain ⟨t,rfl⟩ := rx; exact SeqAt.EqAt.bool_int a b t
    | str b => obtain ⟨t,rfl⟩ := rx; exact SeqAt.EqAt.bool_str a b t
    | _ => exact absurd (show false = true from fx) Bool.false_ne_true
  | int a =>
    obtain ⟨t',rfl⟩ := ry
    cases x with
    | non => cases rx; exact SeqAt.EqAt.int_none a t'
    | bl b => cases rx; exact SeqAt.EqAt.int_bool a t' b
    | int b => obtain ⟨t,rfl⟩ := rx; exact SeqAt.EqAt.int_int a t' b t
    | str b => obtain ⟨t,rfl⟩ := rx; exact SeqAt.EqAt.int_str a t' b t
    | _ => exact absurd (show false = true from fx) Bool.false_ne_true
  | str a =>
    obtain ⟨t',rfl⟩ := ry
    cases x with
    | non => cases rx; exact SeqAt.EqAt.str_none a t'
    | bl b => cases rx; exact SeqAt.EqAt.str_bool a t' b
    | int b => obtain ⟨t,rfl⟩ := rx; exact SeqAt.EqAt.str_int a t' b t
    | str b => obtain ⟨t,rfl⟩ := rx; exact SeqAt.EqAt.str_str a t' b t
    | _ => exact absurd (show false = true from fx) Bool.false_ne_true
  | _ => exact absurd (show false = true from fy) Bool.false_ne_true
def eqU (x : V) (u : Value) : Bool := match u with
  | .none => eqV .non x
  | .bool b => eqV (.bl b) x
  | .int i _ => eqV (.int i) x
  | .str z _ => eqV (.str z) x
  | _ => false
theorem eqU_of {x y : V} {u : Value} (r : RelV y u) (f : flatV y = true) : eqU x u = eqV y x := by
  cases y with
  | non => cases r; rfl
  | bl b => cases r; rfl
  | int i => obtain ⟨t,rfl⟩ := r; rfl
  | str z => obtain ⟨t,rfl⟩ := r; rfl
  | _ => exact absurd (show false = true from f) Bool.false_ne_true
theorem any_eqU {x : V} : ∀ {xs : List V} {us : List Value},Vals xs us → xs.all flatV = true → us.any (eqU x) = xs.any fun y => eqV y x
  | _,_,.nil,_ => rfl
  | y :: xs,u :: us,.cons r t,f => by
    rw [List.all_cons,Bool.and_eq_true] at f
    rw [List.any_cons,List.any_cons,eqU_of r f.1,any_eqU t f.2]
theorem mem_eqAt {A : Around} {s : Shared} {x : V} {v : Value} (rx : RelV x v) (fx : flatV x = true) : ∀ {xs : List V} {us : List Value},Vals xs us → xs.all flatV = true → ∀ u ∈ us,SeqAt.EqAt A s u v (eqU x u)
  | _,_,.nil,_ => fun u hu => by cases hu
  | y :: xs,u :: us,.cons r t,f => fun u' hu => by
    rw [List.all_cons,Bool.and_eq_true] at f
    rcases List.mem_cons.mp hu with rfl | hu
    · rw [eqU_of r f.1]; exact eqAt_V r rx f.1 fx
    · exact mem_eqAt rx fx t f.2 u' hu
def inV (x : V) (xs : List V) : Bool := xs.any fun y => eqV y x
def rIn (K : PySem.W.Frag) (neg : Bool) : R2 := fun x y H Q => ∃ p xs,y = .ref p ∧ (SqL K H p xs ∨ SqT K H p xs) ∧ flatV x = true ∧ xs.all flatV = true ∧ Q (.bl (if neg then !inV x xs else inV x xs)) H
theorem op_in_seq : OpR X (compareOp .In) (rIn X.K false) := by
  intro pins s σ H x y v u Q I rx ry h
  obtain ⟨p,xs,rfl,hq,fx,fs,q⟩ := h
  cases ry
  rcases hq with hq | hq
  · obtain ⟨its,r,pl,hz⟩ := I.list hq
    refine SeqAt.in_listAt (eqU x) pl.isList (fun w hw => mem_eqAt rx fx r fs w (by simpa using hw)) ⟨.bl _,H,I,rfl,?_⟩
    rw [show its.toArray.any (eqU x) = its.any (eqU x) by simp,any_eqU r fs]
    exact q
  · obtain ⟨its,r,pl,hz⟩ := I.tuple hq
    refine SeqAt.in_tupleAt (eqU x) pl (fun w hw => mem_eqAt rx fx r fs w (by simpa using hw)) ⟨.bl _,H,I,rfl,?_⟩
    rw [show its.toArray.any (eqU x) = its.any (eqU x) by simp,any_eqU r fs]
    exact q
theorem op_notIn_seq : OpR X (compareOp .NotIn) (rIn X.K true) := by
  intro pins s σ H x y v u Q I rx ry h
  obtain ⟨p,xs,rfl,hq,fx,fs,q⟩ := h
  cases ry
  rcases hq with hq | hq
  · obtain ⟨its,r,pl,hz⟩ := I.list hq
    refine SeqAt.notIn_listAt (eqU x) pl.isList (fun w hw => mem_eqAt rx fx r fs w (by simpa using hw)) ⟨.bl _,H,I,rfl,?_⟩
    rw [show its.toArray.any (eqU x) = its.any (eqU x) by simp,any_eqU r fs]
    exact q
  · obtain ⟨its,r,pl,hz⟩ := I.tuple hq
    refine SeqAt.notIn_tupleAt (eqU x) pl (fun w hw => mem_eqAt rx fx r fs w (by simpa using hw)) ⟨.bl _,H,I,rfl,?_⟩
    rw [show its.toArray.any (eqU x) = its.any (eqU x) by simp,any_eqU r fs]
    exact q
inductive rLenS (K : PySem.W.Frag) (xs : List V) (H : Hp) (Q : VK) : Prop
  | mk (p : Addr) (ys : List V) (e : xs = [.ref p]) (s : SqL K H p ys ∨ SqT K H p ys) (q : Q (.int ys.length) H) : rLenS K xs H Q
theorem call_len_seq : CallR X (.builtin "len") (rLenS X.K) := by
  intro pins s σ H xs us Q I r h
  obtain ⟨p,ys,rfl,hq,q⟩ := h
  obtain ⟨u,rfl,rx⟩ := vals1 r
  cases rx
  have hn := line63
  rcases hq with hq | hq
  · obtain ⟨its,r',pl,hz⟩ := I.list hq
    have hlen := r'.length
    exact Calls.call_len_list pl.isList (by simp only [List.size_toArray] <;> omega) ⟨.int ys.length,H,I.tok _,⟨s.toks + 1,by rw [List.size_toArray,hlen]⟩,q⟩
  · obtain ⟨its,r',pl,hz⟩ := I.tuple hq
    have hlen := r'.length
    exact len_tuple pl (by simp only [List.size_toArray] <;> omega) ⟨.int ys.length,H,I.tok _,⟨s.toks + 1,by rw [List.size_toArray,hlen]⟩,q⟩
def tyV (K : PySem.W.Frag) (T : String) (x : V) (H : Hp) : Prop := match x with
  | .str _ => T = "str"
  | .int _ => T = "int"
  | .ref p => (T = "list" ∧ ∃ xs,SqL K H p xs) ∨ (T = "tuple" ∧ ∃ o,K.lookup p = some o ∧ o.cls = .type "tuple" ∧ o.dict = none) ∨
      (T = "dict" ∧ ((∃ kvs,H p = some (.dK kvs)) ∨ ∃ kvs,H p = some (.dT kvs))) ∨ (T = "set" ∧ ∃ S n,H p = some (.set S n))
  | _ => False
theorem tyV_is {pins : List (Addr × Obj)} {σ : St} {H : Hp} {s : Shared} {T : String} {x : V} {v : Value} (I : Inv X pins σ H s) (r : RelV x v) (ty : tyV X.K T x H) :
    s.TypeIs v T ∧ ∀ a,v = .ref a → ∃ ob,s.heap.get? a = some ob ∧ ob.dict = none := by
  cases x with
  | str z =>
    obtain ⟨t,rfl⟩ := r
    cases (show T = "str" from ty)
    exact ⟨typeIs_str s z t,fun _ e => nomatch e⟩
  | int i =>
    obtain ⟨t,rfl⟩ := r
    cases (show T = "int" from ty)
    exact ⟨typeIs_int s i t,fun _ e => nomatch e⟩
  | ref p =>
    cases r
    rcases ty with ⟨rfl,xs,hq⟩ | ⟨rfl,o,hk,hc,hd⟩ | ⟨rfl,hk⟩ | ⟨rfl,S,n,hk⟩
    · obtain ⟨its,_,pl,_⟩ := I.list hq
      refine ⟨pl.isList.typeIs,fun a e => ?_⟩
      cases e
      obtain ⟨o,n,e,c,hd,_⟩ := pl
      exact ⟨o,e,hd⟩
    · refine ⟨⟨o,I.kIn p o hk,hc⟩,fun a e => ?_⟩
      cases e
      exact ⟨o,I.kIn _ o hk,hd⟩
    · have z : ∃ o,s.heap.get? p = some o ∧ o.ExactDict := by
        rcases hk with ⟨kvs,hk⟩ | ⟨kvs,hk⟩
        · obtain ⟨_,_,_,_,o,_,_,e,ex,_⟩ := I.hok p _ hk
          exact ⟨o,e,ex⟩
        · obtain ⟨_,_,_,_,o,_,_,e,ex,_⟩ := I.hok p _ hk
          exact ⟨o,e,ex⟩
      obtain ⟨o,e,ex⟩ := z
      refine ⟨⟨o,e,ex.1⟩,fun a e2 => ?_⟩
      cases e2
      exact ⟨o,e,ex.2.1⟩
    · obtain ⟨o,_,_,_,e,ex,_⟩ := I.hok p _ hk
      refine ⟨⟨o,e,ex.1⟩,fun a e2 => ?_⟩
      cases e2
      exact ⟨o,e,ex.2.1⟩
  | _ => exact False.elim ty
def tBM (K : PySem.W.Frag) (T : String) (r : V → List V → Hp → VK → Prop) (to : TE) (t : TA) : TE := fun σ H Q => to σ H fun x H1 => tyV K T x H1 ∧ t σ H1 fun xs H2 => r x xs H2 Q
variable {o e : Expr} {es : List Expr} {to : TE} {t : TA} {name : Str} {apos cpos : Pos} {T id : String} {r : V → List V → Hp → VK → Prop}
theorem pe_bm (pa : PlainAttrs T) (slot : Slot T name id) (hty : typeOf (.builtin id) = pure (.type "method_descriptor")) (hm : MtR X id r) (ho : PE X o to) (ha : PA X (e :: es) t)
    (hbase : attributeBase o name X.env (eval o X.env) = eval o X.env := by rfl)
    (hfew : ((backTo cpos (starEach (e :: es) X.env)).all (fun x => !x.1) && (backToKw cpos (keywordEach [] X.env)).all (fun x => x.1.isSome)
      && decide ((e :: es).length + ([] : List Keyword).length + (if ([] : List Keyword).isEmpty then 0 else 1) < 30)) = true := by rfl)
    (hline : (apos.endLine == cpos.line) = true := by rfl) (hs : starEach (e :: es) X.env = (false,eval e X.env) :: starEach es X.env := by rfl) (hplain : (backTo cpos (starEach es X.env)).any (·.1) = false := by rfl) :
    PE X (.Call (.Attribute o name apos) (e :: es) [] cpos) (tBM X.K T r to t) := by
  intro pins s σ H Q I h
  refine wpAny_Call_method_late hbase hfew hline rfl (thn (ho pins s σ H _ I h) fun v s1 ⟨x,H1,I1,r1,ty,q1⟩ => ?_)
  obtain ⟨h1,h2⟩ := tyV_is I1 r1 ty
  refine ⟨T,id,pa,slot,hty,h1,h2,?_⟩
  have hA := ha cpos pins s1 σ H1 _ I1 q1
  rw [hs] at hA ⊢
  refine Calls.callWith_builtin (by show (false || (backTo cpos (starEach es X.env)).any (·.1)) = false; rw [hplain] <;> rfl) (Calls.evalArgs_plain ?_)
  exact thn hA fun us s2 ⟨vs,H2,I2,r2,q2⟩ => hm pins s2 σ H2 x vs v us Q I2 r1 r2 q2
end
end L2
namespace L2
open PySem PySem.Spec PyProof.Rows
def MtM (X : Cx) (id : String) (r : V → List V → Hp → VK → Prop) : Prop :=
  ∀ (pins : List (Addr × Obj)) (s : Shared) (σ : St) (H : Hp) (x : V) (xs : List V) (v : Value) (us : List Value) (Q : VK),Inv X pins σ H s → RelV x v → Vals xs us → r x xs H Q →
    wpAny (model X.prog X.w) X.A (call (.builtin id) (v :: us)) (EP X pins σ Q) X.xe s
theorem Vals.one : ∀ {x : V} {us : List Value},Vals [x] us → ∃ u,us = [u] ∧ RelV x u
  | _,_,.cons r .nil => ⟨_,rfl,r⟩
theorem Vals.reverse {xs : List V} {us : List Value} (h : Vals xs us) : Vals xs.reverse us.reverse := by
  induction h with
  | nil => exact .nil
  | cons r t ih => rw [List.reverse_cons,List.reverse_cons]; exact Vals.append ih (.cons r .nil)
theorem Vals.rep {xs : List V} {us : List Value} (h : Vals xs us) : ∀ k : Nat,Vals (List.replicate k xs).flatten (List.replicate k us).flatten
  | 0 => .nil
  | k + 1 => by
    rw [List.replicate_succ,List.replicate_succ,List.flatten_cons,List.flatten_cons]
    exact Vals.append h (Vals.rep h k)
theorem foldl_rep (its : List Value) : ∀ (k : Nat) (acc : List Value),
    List.foldl (fun x1 x2 => x1 ++ x2) acc.toArray (List.replicate k its.toArray) = (acc ++ (List.replicate k its).flatten).toArray
  | 0,acc => by simp
  | k + 1,acc => by
    have e : acc.toArray ++ its.toArray = (acc ++ its).toArray := by simp
    have e2 : (acc ++ its) ++ (List.replicate k its).flatten = acc ++ (List.replicate (k + 1) its).flatten := by
      rw [List.replicate_succ,List.flatten_cons,List.append_assoc]
    rw [← e2,← foldl_rep its k (acc ++ its),← e,List.replicate_succ,List.foldl_cons]
section
variable {X : Cx} {pins : List (Addr × Obj)} {σ : St} {H : Hp} {s : Shared} {l b : Addr} {xs ys zs : List V}
theorem Inv.lset {its its' : List Value} {n : Nat} {f : Array Value → Array Value} {t' : Nat} (I : Inv X pins σ H s) (hH : H l = some (.lst xs))
    (e : s.heap.get? l = some { cls := .type "list",data := .seq its.toArray n }) (hf : f its.toArray = its'.toArray) (hv : Vals ys its') (hz : ys.length ≤ sizeLine) :
    Inv X pins σ (upd H l (.lst ys)) { s with heap := s.heap.update l (Obj.mapSeq f),toks := t' } := by
  have q := PySem.IsL.update e f
  rw [hf] at q
  refine I.write (x := l) (e := l) (by rw [hH]; exact trivial) (.inl rfl) (fun b' u hb hu => (Heap.get?_update_other s.heap (Obj.mapSeq f) (Ne.symm hb)).trans hu) ⟨_,q⟩ ?_
  exact ⟨hz,its',_,hv,q⟩
theorem Inv.lnew {its : List Value} {t' : Nat} (I : Inv X pins σ H s) (hv : Vals ys its) (hz : ys.length ≤ sizeLine) :
    Inv X pins σ (upd H s.heap.objs.size (.lst ys)) { s with heap := s.heap.push { cls := .type "list",data := .seq its.toArray },toks := t' } :=
  I.laid (fun _ _ q => Heap.get?_push_of_some _ q) (Nat.le_refl _) ⟨hz,its,0,hv,Heap.get?_push_size _ rfl⟩
theorem Inv.fresh (I : Inv X pins σ H s) : H s.heap.objs.size = none := I.hok.fresh (Nat.le_refl _)
theorem Inv.lstM (I : Inv X pins σ H s) (hH : H l = some (.lst xs)) : xs.length ≤ sizeLine ∧ ∃ (its : List Value) (n : Nat),Vals xs its ∧ xs.length = its.length ∧ s.heap.get? l = some { cls := .type "list",data := .seq its.toArray n } := by
  obtain ⟨z,its,n,r,e⟩ := I.hok l _ hH
  exact ⟨z,its,n,r,r.length,e⟩
theorem notLongL {n : Nat} (h : n ≤ sizeLine) : Builtin.List.listTooLong n = false := by
  unfold Builtin.List.listTooLong
  exact decide_eq_false (by omega)
end
section
variable {X : Cx}
def rAppend : V → List V → Hp → VK → Prop := fun x vs H Q => ∃ l xs y,x = .ref l ∧ vs = [y] ∧ H l = some (.lst xs) ∧ xs.length < sizeLine ∧ Q .non (upd H l (.lst (xs ++ [y])))
theorem mt_append : MtM X "list.append" rAppend := by
  intro pins s σ H x vs v us Q I rx rv h
  obtain ⟨l,xs,y,rfl,rfl,hH,hz,q⟩ := h
  cases rx
  obtain ⟨u,rfl,ru⟩ := rv.one
  obtain ⟨z,its,n,r,hl,e⟩ := I.lstM hH
  refine call_meets F.slot_list_append ⟨_,e,rfl⟩ F.entry_list_append (F.args_list_append_2 _ _) (PySem.list_append l its.toArray n u (by rw [List.size_toArray]; omega)) ⟨e,?_⟩
  refine ⟨.non,_,I.lset (its' := its ++ [u]) hH e (by simp) (r.append (.cons ru .nil)) ?_,rfl,q⟩
  rw [List.length_append,List.length_singleton]
  omega
def rCat : R2 := fun x y H Q => ∃ l b xs zs,x = .ref l ∧ y = .ref b ∧ H l = some (.lst xs) ∧ H b = some (.lst zs) ∧ xs.length + zs.length ≤ sizeLine ∧ ∀ p,H p = none → Q (.ref p) (upd H p (.lst (xs ++ zs)))
theorem op_cat : OpR X (binaryOp .Add) rCat := by
  intro pins s σ H x y v u Q I rx ry h
  obtain ⟨l,b,xs,zs,rfl,rfl,hH,hB,hz,q⟩ := h
  cases rx
  cases ry
  obtain ⟨z,its,n,r,hl,e⟩ := I.lstM hH
  obtain ⟨z2,its2,n2,r2,hl2,e2⟩ := I.lstM hB
  refine PySem.P.add_list e e2 ?_ (by rw [List.size_toArray,List.size_toArray]; omega)
  have ea : its.toArray ++ its2.toArray = (its ++ its2).toArray := by simp
  rw [ea]
  exact ⟨.ref _,_,I.lnew (t' := s.toks) (r.append r2) (by rw [List.length_append]; omega),rfl,q _ I.fresh⟩
def rRep : R2 := fun x y H Q => ∃ l k xs,x = .ref l ∧ y = .int k ∧ H l = some (.lst xs) ∧ -(2 ^ 63) ≤ k ∧ k < 2 ^ 63 ∧ xs.length * k.toNat ≤ sizeLine ∧
  ∀ p,H p = none → Q (.ref p) (upd H p (.lst (List.replicate k.toNat xs).flatten))
theorem len_rep {α : Type} (xs : List α) (k : Nat) : (List.replicate k xs).flatten.length = k * xs.length := by
  induction k with
  | zero => simp
  | succ k ih => rw [List.replicate_succ,List.flatten_cons,List.length_append,ih,Nat.succ_mul,Nat.add_comm]
theorem op_rep : OpR X (binaryOp .Mult) rRep := by
  intro pins s σ H x y v u Q I rx ry h
  obtain ⟨l,k,xs,rfl,rfl,hH,h1,h2,hz,q⟩ := h
  cases rx
  obtain ⟨t,rfl⟩ := ry
  obtain ⟨z,its,n,r,hl,e⟩ := I.lstM hH
  have hlen : its.toArray.size * k.toNat ≤ sizeLine := by rw [List.size_toArray,← hl]; exact hz
  have hcap : ¬ its.toArray.size * k.toNat > (2 ^ 63 - 1) / 8 := by
    have : (sizeLine : Nat) ≤ (2 ^ 63 - 1) / 8 := by decide
    omega
  have hfit : ¬ (!Builtin.List.listFitsIndex k) = true := by
    rw [fitsIndex_both h1 h2]
    exact Bool.false_ne_true
  have hlong : ¬ Builtin.List.listTooLong (its.toArray.size * k.toNat) = true := by
    rw [notLongL hlen]
    exact Bool.false_ne_true
  have hnew : List.foldl (fun x1 x2 => x1 ++ x2) #[] (List.replicate (if its.toArray.isEmpty = true then 0 else k.toNat) its.toArray) = (List.replicate k.toNat its).flatten.toArray := by
    have f0 : ∀ m : Nat,List.foldl (fun x1 x2 => x1 ++ x2) #[] (List.replicate m its.toArray) = (List.replicate m its).flatten.toArray := fun m => by
      have := foldl_rep its m []
      rw [List.nil_append] at this
      exact this
    rw [f0]
    cases its with
    | nil => simp
    | cons a r' => rw [if_neg (by simp)]
  refine wpAny_binaryOp_repeat_ref (T := "list") (U := "int") (by decide) ⟨_,e,rfl⟩ (fun s' => typeIs_int s' k t) noFill_list_mul F.fills_int_mul F.slot_int_rmul repeat_list F.slot_int_index.lookup
    (call_meets F.slot_int_rmul (typeIs_int s k t) F.entry_int_rmul (F.args_int_rmul_2 _ _) (int___rmul___int_list k t l its.toArray n)
      ⟨e,rfl,⟨_,e,rfl⟩,call_meets F.slot_list_mul ⟨_,e,rfl⟩ F.entry_list_mul (F.args_list_mul_2 _ _) (AutoListH.list___mul___list_int_3 l its.toArray n k t hfit hcap hlong) ⟨e,?_⟩⟩)
  rw [hnew]
  exact ⟨.ref _,_,I.lnew (t' := s.toks) (r.rep k.toNat) (by rw [len_rep,Nat.mul_comm]; exact hz),rfl,q _ I.fresh⟩
end
section
variable {prog : Program} {w : World} {A : Around} {E : Value → Shared → Prop} {s : Shared}
set_option maxRecDepth 100000 in
end
section
variable {X : Cx}
end
end L2
namespace Att
open PySem PySem.W PySem.Calls PyProof.Rows
theorem ints_of_wellAll {P : Params} {h : Heap} : ∀ (ns : List Int) (vs : List Value),WellAll P h vs (ns.map WData.int) → IntsAre vs ns := by
  intro ns
  induction ns with
  | nil =>
    intro vs w
    rw [List.map_nil] at w
    cases w
    exact .nil
  | cons n ns ih =>
    intro vs w
    rw [List.map_cons] at w
    cases w with
    | cons a b =>
      cases a
      exact .cons _ _ (ih _ b)
theorem script_of {l : OpenLaw} {n : Nat} (hn : l.most = some n) {P : Params} {h : Heap} {args : List WData} {vals : List Value}
    (hpre : l.row.toRowW.claim.pre args = true) (hwl : WellAll P h vals args) :
    ∃ a vs ns,vals = [Value.ref a] ∧ args = [WData.list (ns.map WData.int)] ∧ h.get? a = some { cls := .type "list",data := .seq vs.toArray } ∧ IntsAre vs ns ∧ ns.length ≤ n := by
  have hsh : WShape.hasAll [] args [.list .int] = true := (pre_splitW hpre).1
  have hc : l.pre.holds [] { args := args } = true := (pre_splitW hpre).2
  obtain ⟨d,r,rfl,h1,h2⟩ := hasAllW_cons hsh
  obtain rfl := hasAllW_nil h2
  obtain ⟨xs,rfl,h3⟩ := hasW_list h1
  obtain ⟨ns,rfl⟩ := items_int h3
  have hlen : ns.length ≤ n := by
    unfold OpenLaw.pre at hc
    have h4 : (WTm.not (.lt (.lit (.int (n : Int))) (.len (.arg 0)))).holds [] { args := [.list (ns.map .int)] } = true := by
      have h4 := (holds_andW hc).1
      rw [hn] at h4
      exact h4
    have h5 := condW_of h4 (w_not (w_lt w_lit (w_len_list (w_arg rfl))))
    rw [List.length_map] at h5
    refine Nat.le_of_not_lt fun q => ?_
    have q' : (n : Int) < ((ns.length : Nat) : Int) := by omega
    first
      | (rw [decide_eq_true q'] at h5; exact absurd h5 (by decide))
      | (simp at h5; omega)
  cases hwl with
  | cons w1 w2 =>
    cases w2
    cases w1 with
    | list ho hall => exact ⟨_,_,ns,rfl,rfl,ho,ints_of_wellAll ns _ hall,hlen⟩
theorem post_true (l : OpenLaw) (args : List WData) : l.row.toRowW.claim.post args (.bool true) args = true :=
  postW_of (r := l.row.toRowW) (X := (true == true))
    (show WShape.has [] (.bool true) .bool = true by first | rfl | decide | simp [WShape.has,WShape.arms,WShape.armsAll])
    (show (WTm.eq .res (.lit (.bool true))).value [] { args := args,res := some (.bool true),after := args } = some (.bool (true == true)) from w_eq_bool (w_res rfl) w_lit) rfl
theorem attach_call {l : OpenLaw} {n : Nat} {q : Program} {loose : List Str} {XP : (Str → Option Value) → Heap → Prop} {YP : World → Heap → Prop} {d : DefRec}
    (hn : l.most = some n) (hdf : d.params.defaults = [])
    (call : ∀ (w : World) (s₀ s₁ : Shared) (mg mb : Str → Option Value) (fa : Addr) (o : Obj) (pm cd doc : Value) (a : Addr) (vs : List Value) (ns : List Int),
      Ground q loose [] XP w s₀ mg mb s₁.heap → YP w s₁.heap →
      s₁.heap.get? fa = some o → o.data = .func (docDef d.name d.params d.body d.scope pm cd doc) → s₁.heap.CodeRec cd d.name → mg d.name = some (.ref fa) →
      s₁.heap.get? a = some { cls := .type "list",data := .seq vs.toArray } → IntsAre vs ns → ns.length ≤ n → s₁.gens = #[] →
      codeAny (model l.prog w) callerA (.call (.ref fa) ⟨[.ref a],[]⟩) (fun r s' => r = .ok (.ret (.bool true)) ∧ OldK s₁.heap s'.heap ∧ s'.os = s₁.os ∧ AllBare s'.gens) s₁) :
    WalkO q loose XP YP l.row.toRowW d [] (fun f vs => PySem.call f vs) := by
  intro w s₀ s₁ mg mb G Y fa o pm cd doc dV kV ho hd hcd hD hmg hg args vals as hpre hlay hrd hwl hlo
  obtain rfl : dV = .none := Dflts.none hD hdf
  obtain rfl : kV = .none := Dflts.noKw hD
  obtain ⟨a,vs,ns,rfl,rfl,hobj,hints,hlen⟩ := script_of hn hpre hwl
  refine enter_call (codeAny_mono (call w s₀ s₁ mg mb fa o pm cd doc a vs ns G Y ho (fd_plain hd) hcd hmg hobj hints hlen hg) fun r s' hq => ?_)
  obtain ⟨rfl,h2,h3,h4⟩ := hq
  exact ⟨.inl ⟨.bool true,.bool true,[],rfl,fun _ => rfl,.bool true,post_true l _,fun _ => ⟨List.Pairwise.nil,fun _ hm => (nomatch hm)⟩⟩,h2,h3,h4⟩
section
variable {prog : Program} {w : World} {A : Around} {E : Value → Shared → Prop} {s : Shared} {K : Frag}
end
end Att
namespace L2
open PySem PySem.Spec PyProof.Rows
theorem vals_ints : ∀ {vs : List Value} {ns : List Int},IntsAre vs ns → Vals (ns.map V.int) vs
  | _,_,.nil => .nil
  | _,_,.cons n t h => .cons ⟨t,rfl⟩ (vals_ints h)
def Only (H : Hp) : Prop := ∀ b,H b = none ∨ ∃ o xs,H b = some (.frz o (.lst xs))
theorem law_call {P : Program} {w : World} {K : PySem.W.Frag} {mg mb : Str → Option Value} {CX : CXT} {k : Nat} {fa a : Addr} {fd : FuncData} {x : Str} {sp : Sp} {s₁ : Shared} {vs : List Value} {ns : List Int}
    (KX : K.In s₁.heap) (hns : s₁.heap.Ns mainGlobals mg) (hb : s₁.heap.Ns builtinsNs mb) (hbb : ∀ x : Str,x ≠ "__name__" → mb x = bootBuiltins x) (hlim : s₁.heap.NoLimit) (hg : s₁.gens = #[])
    (ha : s₁.heap.get? a = some { cls := .type "list",data := .seq vs.toArray }) (hi : IntsAre vs ns) (hl : ns.length ≤ sizeLine) (hr : Room k callerA)
    (F : ∀ base : Heap,K.In base → base.Ns mainGlobals mg → FnOk P w K mg base CX k fa fd [x] sp) (hbind : ∀ (s : Shared) (u : Value),BindsTo s fd ⟨[u],[]⟩ [(x,u)])
    (hsp : ∀ H : Hp,Only H → SqL K H a (ns.map V.int) → sp [.ref a] H (fun v _ => v = .bl true) fun _ _ _ => False)
    (hCX : ∀ H e s',CX [] H s₁ (fun _ _ _ => False) e s' → False) :
    codeAny (model P w) callerA (.call (.ref fa) ⟨[.ref a],[]⟩) (fun r s' => r = .ok (.ret (.bool true)) ∧ OldK s₁.heap s'.heap ∧ s'.os = s₁.os ∧ AllBare s'.gens) s₁ := by
  have rv := vals_ints hi
  have lenV := hi.length
  have core : ∀ H : Hp,Only H → SqL K H a (ns.map V.int) → HOk P w H s₁.heap → (∀ b,H b ≠ none → b = a) → (H a ≠ none → K.lookup a = none) →
      codeAny (model P w) callerA (.call (.ref fa) ⟨[.ref a],[]⟩) (fun r s' => r = .ok (.ret (.bool true)) ∧ OldK s₁.heap s'.heap ∧ s'.os = s₁.os ∧ AllBare s'.gens) s₁ := by
    intro H hO hS hok hA hK
    have base_of : ∀ {b : Addr} {o : Obj},s₁.heap.get? b = some o → H b = none → (hidT s₁.heap H).get? b = some o := fun e n => hidT_get e n
    have noA : ∀ {b : Addr} {o : Obj} {es : Array DictEntry} {ep : Nat},s₁.heap.get? b = some o → o.data = .dict es ep → H b = none := fun {b o es ep} e d => by
      cases q : H b with
      | none => rfl
      | some u =>
        have e' : b = a := hA b (by rw [q]; simp)
        subst e'
        rw [ha] at e; cases e
        have d' : Data.seq vs.toArray _ = Data.dict es ep := d
        cases d'
    have nsK : ∀ {b : Addr} {m : Str → Option Value},s₁.heap.Ns b m → (hidT s₁.heap H).Ns b m := fun {b m} ⟨o,es,ep,e,d,r⟩ => ⟨o,es,ep,base_of e (noA e d),d,r⟩
    have hKb : K.In (hidT s₁.heap H) := fun b o e => base_of (KX b o e) (by
      cases q : H b with
      | none => rfl
      | some u =>
        have e' : b = a := hA b (by rw [q]; simp)
        subst e'
        rw [hK (by rw [q]; simp)] at e; cases e)
    have hM : Mod K mg (hidT s₁.heap H) := ⟨hKb,nsK hns,⟨mb,nsK hb,hbb⟩,let ⟨mc,h1,h2⟩ := hlim; ⟨mc,nsK h1,h2⟩⟩
    have e0 : Env0 P w K mg (hidT s₁.heap H) callerA [] s₁ H := ⟨rfl,hM,fun b o e => of_hidT e,Nat.le_of_eq (hidT_size _ _),trivial,fun b hb => absurd (show b ∈ ([] : List Addr) from hb) (by simp),hok,.of_eq hg⟩
    refine codeAny_mono ((F _ hKb (nsK hns)).run callerA [] s₁ H ⟨[.ref a],[]⟩ [.ref a] [.ref a] _ _ hr e0 (hbind s₁ (.ref a)) (.cons rfl .nil) (hsp H hO hS)) fun r s' h => ?_
    cases r with
    | error e => exact (hCX H e s' h).elim
    | ok fl =>
      cases fl with
      | next => exact False.elim h
      | brk => exact False.elim h
      | cont => exact False.elim h
      | ret u =>
        obtain ⟨v,H',os,bare,un,hok',r',q⟩ := h
        have q' : v = .bl true := q
        subst q'
        obtain rfl : u = Value.bool true := r'
        refine ⟨rfl,OldK.of_keep fun b o e => ?_,os,bare⟩
        cases q : H b with
        | none => exact un.keep b o e q (by intro z; exact absurd (show b ∈ ([] : List Addr) from z) (by simp)) (by simp)
        | some u =>
          rcases hO b with z | ⟨ob,xs,z⟩
          · rw [q] at z; cases z
          · have z2 := un.frzs b ob _ z
            obtain ⟨e1,_⟩ := hok b _ z
            obtain ⟨e2,_⟩ := hok' b _ z2
            rw [e] at e1; cases e1
            exact e2
  cases hk : K.lookup a with
  | some o =>
    have e := KX a o hk
    rw [ha] at e
    cases e
    refine core (fun _ => none) (fun _ => .inl rfl) (.inr ⟨_,vs.toArray,_,hk,rfl,rfl,rfl,by rw [List.size_toArray,lenV]; exact hl,by simpa using rv⟩) (fun b u z => by have z' : (none : Option HO) = some u := z; cases z') (fun b z => absurd rfl z) fun z => absurd rfl z
  | none =>
    refine core (fun b => if b = a then some (.frz { cls := .type "list",data := .seq vs.toArray } (.lst (ns.map V.int))) else none) (fun b => ?_) (.inl (.inr ⟨{ cls := .type "list",data := .seq vs.toArray },if_pos rfl⟩)) (fun b u z => ?_) (fun b z => ?_) fun _ => hk
    · by_cases hb : b = a
      · exact .inr ⟨_,_,if_pos hb⟩
      · exact .inl (if_neg hb)
    · by_cases hb : b = a
      · have z' := (if_pos hb).symm.trans z
        cases z'
        subst hb
        exact ⟨ha,by rw [List.length_map]; exact hl,vs,_,rv,ha⟩
      · have z' := (if_neg hb).symm.trans z
        cases z'
    · by_cases hb : b = a
      · exact hb
      · exact absurd (if_neg hb) z
end L2
namespace L2
open PySem PySem.Spec PyProof.Rows
theorem walk_of {l : PySem.W.OpenLaw} {n k : Nat} {q : Program} {loose : List Str} {XP : (Str → Option Value) → Heap → Prop} {YP : World → Heap → Prop} {d : DefRec} {K : Params → PySem.W.Frag} {CX : World → CXT} {sp : World → Sp} {x : Str}
    (hn : l.most = some n) (hn2 : n ≤ sizeLine) (hdf : d.params.defaults = []) (hr : Room k callerA)
    (hY : ∀ (w : World) (h : Heap),YP w h → (K w.params).In h)
    (F : ∀ (w : World) (mg : Str → Option Value) (fa : Addr) (h : Heap),(K w.params).In h → h.Ns mainGlobals mg → mg d.name = some (.ref fa) →
      ∃ fd : FuncData,(∀ (s : Shared) (u : Value),BindsTo s fd ⟨[u],[]⟩ [(x,u)]) ∧
        ∀ base : Heap,(K w.params).In base → base.Ns mainGlobals mg → FnOk l.prog w (K w.params) mg base (CX w) k fa fd [x] (sp w))
    (hsp : ∀ (w : World) (H : Hp) (a : Addr) (ns : List Int),ns.length ≤ n → Only H → SqL (K w.params) H a (ns.map V.int) → sp w [.ref a] H (fun v _ => v = .bl true) fun _ _ _ => False)
    (hCX : ∀ (w : World) (H : Hp) (s : Shared) (e : Value) (s' : Shared),CX w [] H s (fun _ _ _ => False) e s' → False) :
    PySem.W.WalkO q loose XP YP l.row.toRowW d [] (fun f vs => PySem.call f vs) := by
  refine Att.attach_call hn hdf fun w s₀ s₁ mg mb fa o pm cd doc a vs ns G Y ho hd hcd hmg hobj hints hlen hg => ?_
  have KX := hY w _ Y
  obtain ⟨fd,hb,hF⟩ := F w mg fa _ KX G.T.g hmg
  exact law_call KX G.T.g G.T.b G.T.builtins G.T.nolimit hg hobj hints (Nat.le_trans hlen hn2) hr hF hb (fun H hO hS => hsp w H a ns hlen hO hS) fun H e s' => hCX w H s₁ e s'
end L2
namespace L2
open PySem PySem.Spec PyProof.Rows
def defArgs (s : Stmt) : Arguments := match s with
  | .FunctionDef _ a _ _ _ _ _ _ _ _ => a
  | _ => { posonlyargs := [],args := [],vararg := none,kwonlyargs := [],kw_defaults := [],kwarg := none,defaults := [] }
def defBody (s : Stmt) : List Stmt := match s with
  | .FunctionDef _ _ b _ _ _ _ _ _ _ => b
  | _ => []
def defScope (s : Stmt) : Scope := match s with
  | .FunctionDef _ _ _ _ _ _ sc _ _ _ => sc
  | _ => { kind := .function,names := [],isGenerator := false,isCoroutine := false }
abbrev CX0 : CXT := fun _ _ _ _ _ _ => False
abbrev E0 : XK := fun _ _ _ => False
theorem pass0 {X : Cx} : Passes CX0 X E0 := fun _ _ _ _ _ _ _ h => h.elim
section
variable {P : Program} {w : World} {K : PySem.W.Frag} {mg : Str → Option Value} {base : Heap}
end
theorem small1000 {n : Nat} (h : n ≤ 1000) : n < sizeLine := Nat.lt_of_le_of_lt h (by decide)
section
variable {X : Cx}
theorem pv (i : Nat) {x : Str} {pos : Pos} (hN : X.N[i]? = some x := by rfl) (hv : Vis X.env.scope x := by first | exact Or.inl rfl | exact Or.inr (Or.inl rfl) | exact Or.inr (Or.inr rfl)) (hd : (x == ("__debug__" : Str)) = false := by decide)
    (hcd : (x == ("__classdict__" : Str)) = false := by decide) : PE X (.Name x pos) (tVar i) := pe_var hN hv hd hcd
end
theorem iteF {A B : Prop} (h : B) : if false = true then A else B := by
  rw [if_neg Bool.false_ne_true]
  exact h
theorem iteT {A B : Prop} (h : A) : if true = true then A else B := by
  rw [if_pos rfl]
  exact h
def Same (H H' : Hp) : Prop := ∀ b o,H b = some o → H' b = some o
theorem Same.refl (H : Hp) : Same H H := fun _ _ h => h
theorem Same.trans {H H1 H2 : Hp} (a : Same H H1) (b : Same H1 H2) : Same H H2 := fun c o h => b c o (a c o h)
theorem Same.free {H H' : Hp} (e : Same H H') {l : Addr} (h : H' l = Option.none) : H l = Option.none := by
  cases q : H l with
  | none => rfl
  | some o =>
    rw [e l o q] at h
    cases h
theorem Same.seq {K : PySem.W.Frag} {H H' : Hp} {a : Addr} {xs : List V} (e : Same H H') (h : SqL K H a xs) : SqL K H' a xs := by
  rcases h with (h | ⟨o,h⟩) | h
  · exact .inl (.inl (e _ _ h))
  · exact .inl (.inr ⟨o,e _ _ h⟩)
  · exact .inr h
end L2
end
section
set_option Elab.async false
set_option linter.all false
set_option maxRecDepth 100000
set_option maxHeartbeats 4000000
namespace Mth
theorem gcd_step {a b : Int} (ha : 0 ≤ a) (hb : 0 < b) : Int.gcd b (a % b) = Int.gcd a b := by
  obtain ⟨m,rfl⟩ := Int.eq_ofNat_of_zero_le ha
  obtain ⟨n,rfl⟩ := Int.eq_ofNat_of_zero_le (Int.le_of_lt hb)
  rw [← Int.natCast_emod]
  show Nat.gcd (n : Int).natAbs ((m % n : Nat) : Int).natAbs = Nat.gcd (m : Int).natAbs (n : Int).natAbs
  simp only [Int.natAbs_natCast]
  rw [Nat.gcd_comm m n,Nat.gcd_comm n (m % n)]
  exact (Nat.gcd_rec n m).symm
theorem gcd_abs (a b : Int) : Int.gcd (if a < 0 then -a else a) b = Int.gcd a b := by
  split
  · exact Int.neg_gcd
  · rfl
theorem gcd_abs' (a b : Int) : Int.gcd a (if b < 0 then -b else b) = Int.gcd a b := by
  rw [Int.gcd_comm,gcd_abs,Int.gcd_comm]
theorem gcd_zero {a : Int} (ha : 0 ≤ a) : (Int.gcd a 0 : Int) = a := by
  rw [Int.gcd_zero]; omega
structure Low (t b : Int) : Prop where
  pos : 1 ≤ b
  one : Int.gcd t b = 1
theorem gcd_pos {a b : Int} (h : b ≠ 0) : 0 < (Int.gcd a b : Int) := by
  have := Int.gcd_pos_of_ne_zero_right a h
  omega
theorem div_eq (a b : Int) : a = a / (Int.gcd a b : Int) * (Int.gcd a b : Int) := (Int.ediv_mul_cancel (Int.gcd_dvd_left a b)).symm
theorem div_eq' (a b : Int) : b = b / (Int.gcd a b : Int) * (Int.gcd a b : Int) := (Int.ediv_mul_cancel (Int.gcd_dvd_right a b)).symm
theorem div_low {a b : Int} (hb : 0 < b) : Low (a / (Int.gcd a b : Int)) (b / (Int.gcd a b : Int)) := by
  have hg := gcd_pos (a := a) (b := b) (by omega)
  refine ⟨?_,?_⟩
  · have h1 := div_eq' a b
    have h2 : 0 < b / (Int.gcd a b : Int) := Int.ediv_pos_of_pos_of_dvd hb (by omega) (Int.gcd_dvd_right a b)
    omega
  · rw [Int.gcd_ediv (Int.gcd_dvd_left a b) (Int.gcd_dvd_right a b)]
    simp only [Int.natAbs_natCast]
    exact Nat.div_self (by omega)
theorem low_dvd {t b t' b' : Int} (h : Low t b) (e : t * b' = t' * b) : b ∣ b' := by
  have h1 : b.natAbs ∣ t.natAbs * b'.natAbs := by
    rw [← Int.natAbs_mul,e,Int.natAbs_mul]
    exact Nat.dvd_mul_left _ _
  have h2 : Nat.Coprime b.natAbs t.natAbs := by
    have := h.one
    unfold Nat.Coprime
    rw [Nat.gcd_comm]
    exact this
  exact Int.natAbs_dvd_natAbs.mp (h2.dvd_of_dvd_mul_left h1)
theorem low_unique {t b t' b' : Int} (h : Low t b) (h' : Low t' b') (e : t * b' = t' * b) : t = t' ∧ b = b' := by
  have d1 := low_dvd h e
  have d2 := low_dvd h' e.symm
  have p1 := h.pos
  have p2 := h'.pos
  have eb : b = b' := Int.le_antisymm (Int.le_of_dvd (by omega) d1) (Int.le_of_dvd (by omega) d2)
  subst eb
  exact ⟨Int.eq_of_mul_eq_mul_right (by omega) e,rfl⟩
structure Frac (top bottom t b : Int) : Prop where
  low : Low t b
  eq : top * b = t * bottom
theorem frac_pos {a b : Int} (hb : 0 < b) : Frac a b (a / (Int.gcd a b : Int)) (b / (Int.gcd a b : Int)) := by
  refine ⟨div_low hb,?_⟩
  have h1 := div_eq a b
  have h2 := div_eq' a b
  generalize a / (Int.gcd a b : Int) = x at *
  generalize b / (Int.gcd a b : Int) = y at *
  generalize (Int.gcd a b : Int) = g at *
  subst h1 h2
  grind
theorem frac_fdiv {a b : Int} (hb : b ≠ 0) (d : Int) (hd : d = if b < 0 then -(Int.gcd a b : Int) else (Int.gcd a b : Int)) : Frac a b (a.fdiv d) (b.fdiv d) := by
  have hg := gcd_pos (a := a) (b := b) hb
  by_cases h : b < 0
  · rw [if_pos h] at hd
    have f := frac_pos (a := -a) (b := -b) (by omega)
    rw [Int.gcd_neg,Int.neg_gcd] at f
    subst hd
    have e1 : a.fdiv (-(Int.gcd a b : Int)) = -a / (Int.gcd a b : Int) := by
      rw [← Int.neg_fdiv_neg,Int.neg_neg]; exact Int.fdiv_eq_ediv_of_nonneg _ (by omega)
    have e2 : b.fdiv (-(Int.gcd a b : Int)) = -b / (Int.gcd a b : Int) := by
      rw [← Int.neg_fdiv_neg,Int.neg_neg]; exact Int.fdiv_eq_ediv_of_nonneg _ (by omega)
    rw [e1,e2]
    exact ⟨f.low,by have := f.eq; grind⟩
  · rw [if_neg h] at hd
    subst hd
    rw [Int.fdiv_eq_ediv_of_nonneg _ (by omega),Int.fdiv_eq_ediv_of_nonneg _ (by omega)]
    exact frac_pos (by omega)
theorem frac_unique {a b t u t' u' : Int} (hb : b ≠ 0) (h : Frac a b t u) (h' : Frac a b t' u') : t = t' ∧ u = u' := by
  refine low_unique h.low h'.low ?_
  have e1 := h.eq
  have e2 := h'.eq
  have : b * (t * u') = b * (t' * u) := by grind
  exact Int.eq_of_mul_eq_mul_left hb this
theorem frac_self {t u : Int} (h : Low t u) : Frac t u t u := ⟨h,rfl⟩
end Mth
namespace L2
open PySem PySem.Spec PyProof.Rows
abbrev bits (i : Int) : Nat := Builtin.Int.intBits i
theorem bits_of {i : Int} {n : Nat} (h : i.natAbs < 2 ^ n) : bits i ≤ n := intBits_le h
theorem bits_lt {i : Int} {n : Nat} (h : bits i ≤ n) : i.natAbs < 2 ^ n := by
  unfold bits Builtin.Int.intBits at h
  by_cases h0 : i = 0
  · subst h0
    exact Nat.pos_of_ne_zero (by simp)
  · rw [if_neg (by simpa using h0)] at h
    have h1 : i.natAbs ≠ 0 := by omega
    exact (Nat.log2_lt h1).mp (by omega)
theorem bits_mono {i j : Int} {n : Nat} (h : i.natAbs ≤ j.natAbs) (hj : bits j ≤ n) : bits i ≤ n := bits_of (Nat.lt_of_le_of_lt h (bits_lt hj))
theorem bits_mul {i j : Int} {m n : Nat} (hi : bits i ≤ m) (hj : bits j ≤ n) : bits (i * j) ≤ m + n := by
  refine bits_of ?_
  rw [Int.natAbs_mul,Nat.pow_add]
  exact Nat.mul_lt_mul'' (bits_lt hi) (bits_lt hj)
theorem bits_add {i j : Int} {n : Nat} (hi : bits i ≤ n) (hj : bits j ≤ n) : bits (i + j) ≤ n + 1 := by
  refine bits_of ?_
  have h1 := bits_lt hi
  have h2 := bits_lt hj
  have h3 : (2 : Nat) ^ (n + 1) = 2 * 2 ^ n := by rw [Nat.pow_succ,Nat.mul_comm]
  omega
theorem bits_sub {i j : Int} {n : Nat} (hi : bits i ≤ n) (hj : bits j ≤ n) : bits (i - j) ≤ n + 1 := by
  refine bits_of ?_
  have h1 := bits_lt hi
  have h2 := bits_lt hj
  have h3 : (2 : Nat) ^ (n + 1) = 2 * 2 ^ n := by rw [Nat.pow_succ,Nat.mul_comm]
  omega
theorem bits_neg {i : Int} {n : Nat} (hi : bits i ≤ n) : bits (-i) ≤ n := bits_mono (by omega) hi
theorem bits_ediv {i j : Int} {n : Nat} (hj : 0 < j) (hi : bits i ≤ n) : bits (i / j) ≤ n := by
  refine bits_mono ?_ hi
  exact Int.natAbs_ediv_le_natAbs i j
theorem bits_fdiv {i j : Int} {n : Nat} (hi : bits i ≤ n) : bits (i.fdiv j) ≤ n := PySem.intBits_fdiv_le hi
theorem bits_range {i b : Int} {n : Nat} (h0 : 0 ≤ i) (h1 : i ≤ b) (hb : bits b ≤ n) : bits i ≤ n := bits_mono (by omega) hb
theorem bits_le {i : Int} {m n : Nat} (h : bits i ≤ m) (hm : m ≤ n) : bits i ≤ n := Nat.le_trans h hm
section
variable {X : Cx} {pos : Pos}
def CM (i j : Int) : Prop := IntMulOk i j
theorem CM.b {i j : Int} {m n : Nat} (hi : bits i ≤ m) (hj : bits j ≤ n) (hm : m ≤ 2 ^ 20) (hn : n ≤ 2 ^ 20) : CM i j := IntMulOk.of_bits (Nat.le_trans hi hm) (Nat.le_trans hj hn)
theorem CM.l {i j : Int} (h : -(2 ^ 64) < i ∧ i < 2 ^ 64) : CM i j := CMul.ok (.inl h)
theorem CM.r {i j : Int} (h : -(2 ^ 64) < j ∧ j < 2 ^ 64) : CM i j := CMul.ok (.inr h)
theorem op_mulX : OpR X (binaryOp .Mult) (rI CM fun i j => .int (i * j)) := opI fun _ _ _ _ _ _ _ hc q => mul_int q hc
def CD (_ j : Int) : Prop := 0 < j ∧ bits j ≤ 8000
theorem log2_of_bits {j : Int} {n : Nat} (hj : j ≠ 0) (h : bits j ≤ n) (hn : n ≤ 9000) : j.natAbs.log2 < 9000 := by
  have h1 : j.natAbs ≠ 0 := by omega
  have h2 := (Nat.log2_lt h1).mpr (bits_lt h)
  omega
theorem op_fdivP : OpR X (binaryOp .FloorDiv) (rI CD fun i j => .int (i / j)) := opI fun i j _ _ _ _ _ hc q => by
  have h1 : (0 : Int) < j := hc.1
  exact floordiv_int (by omega) (by rw [Int.fdiv_eq_ediv_of_nonneg i (by omega)]; exact q) (.inl (PyProof.noPylong_of_log2 (log2_of_bits (by omega) hc.2 (by decide))))
def CDZ (_ j : Int) : Prop := j ≠ 0 ∧ bits j ≤ 8000
theorem op_fdivZ : OpR X (binaryOp .FloorDiv) (rI CDZ fun i j => .int (i.fdiv j)) := opI fun i j _ _ _ _ _ hc q =>
  floordiv_int hc.1 q (.inl (PyProof.noPylong_of_log2 (log2_of_bits hc.1 hc.2 (by decide))))
end
theorem bt_int : bootBuiltins "int" = some (.type "int") := by decide +kernel
theorem bt_bool : bootBuiltins "bool" = some (.type "bool") := by decide +kernel
theorem bt_str : bootBuiltins "str" = some (.type "str") := by decide +kernel
theorem bt_tuple : bootBuiltins "tuple" = some (.type "tuple") := by decide +kernel
theorem bt_list : bootBuiltins "list" = some (.type "list") := by decide +kernel
theorem bt_isinstance : bootBuiltins "isinstance" = some (.builtin "isinstance") := by decide +kernel
theorem bt_abs : bootBuiltins "abs" = some (.builtin "abs") := by decide +kernel
theorem bt_len : bootBuiltins "len" = some (.builtin "len") := by decide +kernel
theorem bt_min : bootBuiltins "min" = some (.builtin "min") := by decide +kernel
theorem bt_max : bootBuiltins "max" = some (.builtin "max") := by decide +kernel
theorem pe_ty {X : Cx} {x : Str} {T : String} {pos : Pos} (hm : X.mg x = none) (hv : bootBuiltins x = some (.type T)) (hg : Gl X x := by rfl) (hn : x ≠ "__name__" := by decide) (hd : (x == ("__debug__" : Str)) = false := by decide) :
    PE X (.Name x pos) (tC (.ty T)) := pe_bltn hg hm hv rfl hn hd
inductive Kn (H : Hp) : V → String → Prop where
  | non : Kn H .non "NoneType"
  | bl (b : Bool) : Kn H (.bl b) "bool"
  | int (i : Int) : Kn H (.int i) "int"
  | str (x : Str) : Kn H (.str x) "str"
  | lst {a : Addr} {xs : List V} (e : H a = some (.lst xs)) : Kn H (.ref a) "list"
  | tup {a : Addr} {xs : List V} (e : H a = some (.tup xs)) : Kn H (.ref a) "tuple"
  | dict {a : Addr} {kvs : List (Key × V)} (e : H a = some (.dK kvs)) : Kn H (.ref a) "dict"
theorem Kn.ty {K : PySem.W.Frag} {H : Hp} {x : V} {t : String} (k : Kn H x t) : TyOf K H x (.type t) := by
  cases k with
  | non => exact .non
  | bl b => exact .bl b
  | int i => exact .int i
  | str x => exact .str x
  | lst e => exact .lst e
  | tup e => exact .tup e
  | dict e => exact .dK e
theorem Kn.mono {H H' : Hp} {x : V} {t : String} (k : Kn H x t) (s : Same H H') : Kn H' x t := by
  cases k with
  | non => exact .non
  | bl b => exact .bl b
  | int i => exact .int i
  | str x => exact .str x
  | lst e => exact .lst (s _ _ e)
  | tup e => exact .tup (s _ _ e)
  | dict e => exact .dict (s _ _ e)
def isSub (t T : String) : Bool := t == T || (t == "bool" && T == "int")
def Nice (T : String) : Prop := T = "int" ∨ T = "bool" ∨ T = "tuple" ∨ T = "list" ∨ T = "str"
theorem kit_of (K : PySem.W.Frag) {H : Hp} {x : V} {t T : String} (k : Kn H x t) (n : Nice T) : PySem.W.kitOne K (.type t) (.type T) = some (isSub t T) := by
  rcases n with rfl | rfl | rfl | rfl | rfl <;> cases k <;> kernel_rfl
inductive rIsI (xs : List V) (H : Hp) (Q : VK) : Prop
  | mk (x : V) (t T : String) (e : xs = [x,.ty T]) (k : Kn H x t) (n : Nice T) (q : Q (.bl (isSub t T)) H) : rIsI xs H Q
theorem call_isinst {X : Cx} : CallR X (.builtin "isinstance") rIsI := by
  intro pins s σ H xs us Q I rs h
  obtain ⟨x,t,T,rfl,k,n,q⟩ := h
  obtain ⟨u,v,rfl,ru,rv⟩ := vals2 rs
  cases (show v = Value.type T from rv)
  exact isinst_ok I ru k.ty (kit_of X.K k n) fun tk => ⟨.bl _,H,I.tok _,rfl,q⟩
structure Fn (P : Program) (w : World) (K : PySem.W.Frag) (mg : Str → Option Value) (base : Heap) (x : Str) (ps : List Str) (k : Nat) (sp : Sp) : Prop where
  ex : ∃ (f : Addr) (fd : FuncData) (o : Obj),mg x = some (.ref f) ∧ PySem.W.keepIn K (.ref f) = true ∧ (∀ us : List Value,us.length = ps.length → bindArgs fd ⟨us,[]⟩ = pure (ps.zip us)) ∧ (K.lookup f = some o ∧ o.data = .func fd) ∧ FnOk P w K mg base CX0 k f fd ps sp
theorem pe_fn {X : Cx} {x : Str} {ps : List Str} {k : Nat} {sp : Sp} {p pos : Pos} {e : Expr} {es : List Expr} {t : TA} (F : Fn X.prog X.w X.K X.mg X.base x ps k sp) (hr : Room k X.A) (hg : Gl X x) (ha : PA X (e :: es) t)
    (hdb : (x == ("__debug__" : Str)) = false := by decide) (he : starEach (e :: es) X.env = (false,eval e X.env) :: starEach es X.env := by rfl) (hpl : (backTo pos (starEach es X.env)).any (·.1) = false := by rfl) :
    PE X (.Call (.Name x p) (e :: es) [] pos) (tCall sp [] E0 t) := by
  obtain ⟨f,fd,o,hm,hk,hb,_,G⟩ := F.ex
  exact pe_call G hr hg hm hk (.all hb) .nil pass0 ha hdb he hpl
structure Df (K : PySem.W.Frag) (mg : Str → Option Value) (x : Str) (st : Stmt) : Prop where
  ex : ∃ (f : Addr) (oc : Value) (od : Option Addr) (kV doc pm : Value) (an : Option Addr) (cdv ct : Value) (osl : Array (Option Value)),
    mg x = some (.ref f) ∧ K.lookup f = some ⟨oc,od,.func (PySem.W.fnOf x x (defArgs st) (defBody st) (defScope st) .none kV doc pm an cdv ct),osl⟩ ∧ PySem.W.codeIn K cdv x = true ∧ PySem.W.keepIn K (.ref f) = true
theorem df_mk {K : PySem.W.Frag} {mg : Str → Option Value} {h : Heap} {x : Str} {st : Stmt} {f : Addr} {oc : Value} {od an : Option Addr} {osl : Array (Option Value)} {kV doc pm cdv ct : Value} (X : K.In h) (G : h.Ns mainGlobals mg)
    (a : PySem.W.nsIn K mainGlobals x = some (some (.ref f))) (l : K.lookup f = some ⟨oc,od,.func (PySem.W.fnOf x x (defArgs st) (defBody st) (defScope st) .none kV doc pm an cdv ct),osl⟩) (c : PySem.W.codeIn K cdv x = true) (k : PySem.W.keepIn K (.ref f) = true) :
    Df K mg x st := ⟨⟨f,oc,od,kV,doc,pm,an,cdv,ct,osl,PySem.W.mg_of X G a,l,c,k⟩⟩
theorem Df.fn {P : Program} {w : World} {K : PySem.W.Frag} {mg : Str → Option Value} {base : Heap} {x : Str} {st : Stmt} {N ps : List Str} {k : Nat} {sp : Sp} (D : Df K mg x st) (S : FnScope N ps (defScope st))
    (hbind : ∀ (kV doc pm : Value) (an : Option Addr) (cdv ct : Value) (us : List Value),us.length = ps.length → bindArgs (PySem.W.fnOf x x (defArgs st) (defBody st) (defScope st) .none kV doc pm an cdv ct) ⟨us,[]⟩ = pure (ps.zip us))
    (len : ∀ vs H Q E,sp vs H Q E → vs.length = ps.length)
    (hbody : ∀ (f : Addr) (cdv : Value) (A : Around) (outer : List Env) (s : Shared) (H : Hp) (vs : List V) (Q : VK) (E : XK),Room k (A.deeper (envOfC x (defScope st) s.heap.objs.size f cdv)) → sp vs H Q E →
      ∃ t,PSs (cxOf CX0 P w K mg base N x (defScope st) f cdv A outer s H E).nox (defBody st) t ∧ t { nx := fun _ H' => Q .non H',rt := Q } (start N vs) H) : Fn P w K mg base x ps (k + 1) sp := by
  obtain ⟨f,oc,od,kV,doc,pm,an,cdv,ct,osl,hm,lk,hcd,hk⟩ := D.ex
  refine ⟨⟨f,_,_,hm,hk,hbind kV doc pm an cdv ct,⟨lk,rfl⟩,fn_of lk hcd S len fun A outer s H vs Q E hr hsp => ?_⟩⟩
  obtain ⟨t,h,q⟩ := hbody f cdv A outer s H vs Q E hr hsp
  exact ⟨t,h.nox,q⟩
theorem law_fd {P : Program} {w : World} {K : PySem.W.Frag} {mg : Str → Option Value} {fa : Addr} {k : Nat} {sp : Sp} (h : Heap) (hfa : mg "law" = some (.ref fa)) (F : ∀ base : Heap,Fn P w K mg base "law" ["script"] k sp) :
    ∃ fd : FuncData,(∀ (s : Shared) (v : Value),BindsTo s fd ⟨[v],[]⟩ [("script",v)]) ∧ ∀ base : Heap,K.In base → base.Ns mainGlobals mg → FnOk P w K mg base CX0 k fa fd ["script"] sp := by
  obtain ⟨f,fd,o,hm,_,hb,⟨hl,hd⟩,_⟩ := (F h).ex
  rw [hfa] at hm
  cases hm
  refine ⟨fd,fun s v => .of_eq (hb [v] rfl),fun base _ _ => ?_⟩
  obtain ⟨f',fd',o',hm',_,_,⟨hl',hd'⟩,G⟩ := (F base).ex
  rw [hfa] at hm'
  cases hm'
  rw [hl] at hl'
  cases hl'
  rw [hd] at hd'
  cases hd'
  exact G
def spLaw (K : PySem.W.Frag) : Sp := fun vs H Q _ => ∃ (a : Addr) (ns : List Int),vs = [.ref a] ∧ SqL K H a (ns.map V.int) ∧ ns.length ≤ 63 ∧ ∀ H',Q (.bl true) H'
theorem law_walk {l : PySem.W.OpenLaw} {k : Nat} {q : Program} {loose : List Str} {XP : (Str → Option Value) → Heap → Prop} {YP : World → Heap → Prop} {d : DefRec} {K : Params → PySem.W.Frag} (hk : Room k callerA) (hn : l.most = some 63) (hdf : d.params.defaults = [])
    (hY : ∀ (w : World) (h : Heap),YP w h → (K w.params).In h)
    (F : ∀ (w : World) (mg : Str → Option Value) (fa : Addr) (h : Heap),(K w.params).In h → h.Ns mainGlobals mg → mg d.name = some (.ref fa) →
      ∃ fd : FuncData,(∀ (s : Shared) (u : Value),BindsTo s fd ⟨[u],[]⟩ [("script",u)]) ∧ ∀ base : Heap,(K w.params).In base → base.Ns mainGlobals mg → FnOk l.prog w (K w.params) mg base CX0 k fa fd ["script"] (spLaw (K w.params))) :
    PySem.W.WalkO q loose XP YP l.row.toRowW d [] (fun f vs => PySem.call f vs) :=
  L2.walk_of (n := 63) (k := k) (x := "script") (CX := fun _ => CX0) (sp := fun w => spLaw (K w.params)) hn (by decide) hdf hk hY F (fun _ _ a ns hl _ hS => ⟨a,ns,rfl,hS,hl,fun _ => rfl⟩) fun _ _ _ _ _ z => z
theorem Same.new {H : Hp} {p : Addr} {o : HO} (h : H p = none) : Same H (upd H p o) := fun b o' e => by
  rw [upd_ne (ne_of_none e h)]
  exact e
theorem ite3 {c : Bool} {A B : Prop} (h1 : c = true → A) (h2 : c = false → B) : if c = true then A else B := by
  cases c with
  | true => exact iteT (h1 rfl)
  | false => exact iteF (h2 rfl)
theorem iteFalse {b : Bool} {A B : Prop} (hb : b = false) (h : B) : if b = true then A else B := by
  subst hb
  exact iteF h
theorem iteTrue {b : Bool} {A B : Prop} (hb : b = true) (h : A) : if b = true then A else B := by
  subst hb
  exact iteT h
def isIntV : V → Bool
  | .int _ => true
  | _ => false
end L2
namespace Sp1
open PySem PySem.Spec L2 Mth
inductive spWhole (vs : List V) (H : Hp) (Q : VK) (x_3 : XK) : Prop
  | mk : ∀ x t,(vs = [x]) → (Kn H x t) → (Q (.bl (isIntV x)) H) → spWhole vs H Q x_3
inductive spGcd (vs : List V) (H : Hp) (Q : VK) (x_3 : XK) : Prop
  | mk : ∀ a b : Int,(vs = [.int a,.int b]) → (Q (.int (Int.gcd a b : Int)) H) → spGcd vs H Q x_3
inductive spLess (vs : List V) (H : Hp) (Q : VK) (x_3 : XK) : Prop
  | mk : ∀ (p q : Addr) (a b c d : Int),(vs = [.ref p,.ref q]) → (H p = some (.tup [.int a,.int b])) → (H q = some (.tup [.int c,.int d])) → ((bits a ≤ 2000 ∧ bits b ≤ 2000 ∧ bits c ≤ 2000 ∧ bits d ≤ 2000)) → (Q (.bl (decide (a * d < c * b))) H) → spLess vs H Q x_3
inductive spFloor (vs : List V) (H : Hp) (Q : VK) (x_3 : XK) : Prop
  | mk : ∀ (p : Addr) (a b : Int),(vs = [.ref p]) → (H p = some (.tup [.int a,.int b])) → ((0 < b ∧ bits b ≤ 2000)) → (Q (.int (a / b)) H) → spFloor vs H Q x_3
def lowB (a b : Int) : Bool := decide (1 ≤ b) && decide (Int.gcd a b = 1)
def lowL : List V → Bool
  | [.int a,.int b] => lowB a b
  | _ => false
def lowV (H : Hp) : V → Bool
  | .ref p => match H p with
    | some (.tup xs) => lowL xs
    | _ => false
  | _ => false
structure Thing (H : Hp) (x : V) : Prop where
  kn : ∃ t,Kn H x t
  parts : ∀ p xs,x = .ref p → H p = some (.tup xs) → ∀ y ∈ xs,∃ t,Kn H y t
inductive spLow (vs : List V) (H : Hp) (Q : VK) (x_3 : XK) : Prop
  | mk : ∀ x,(vs = [x]) → (Thing H x) → (Q (.bl (lowV H x)) H) → spLow vs H Q x_3
theorem whole_sub {H : Hp} {x : V} {t : String} (k : Kn H x t) : (isSub t "int" = true → (!isSub t "bool") = isIntV x) ∧ (isSub t "int" = false → isIntV x = false) := by
  cases k with
  | non => exact ⟨fun h => absurd h (by decide),fun _ => rfl⟩
  | bl b => exact ⟨fun _ => (show (!isSub "bool" "bool") = false by decide),fun h => absurd h (by decide)⟩
  | int i => exact ⟨fun _ => (show (!isSub "int" "bool") = true by decide),fun h => absurd h (by decide)⟩
  | str x => exact ⟨fun h => absurd h (by decide),fun _ => rfl⟩
  | lst e => exact ⟨fun h => absurd h (by decide),fun _ => rfl⟩
  | tup e => exact ⟨fun h => absurd h (by decide),fun _ => rfl⟩
  | dict e => exact ⟨fun h => absurd h (by decide),fun _ => rfl⟩
theorem abs_nonneg (a : Int) : 0 ≤ (if a < 0 then -a else a) := by split <;> omega
theorem Kn.cases_int {H : Hp} {y : V} {t : String} (k : Kn H y t) : (∃ a,y = .int a ∧ t = "int") ∨ ((∀ a,y ≠ .int a) ∧ isIntV y = false) := by
  cases k with
  | int a => exact .inl ⟨a,rfl,rfl⟩
  | non => exact .inr ⟨fun a e => (nomatch e),rfl⟩
  | bl b => exact .inr ⟨fun a e => (nomatch e),rfl⟩
  | str x => exact .inr ⟨fun a e => (nomatch e),rfl⟩
  | lst e => exact .inr ⟨fun a e => (nomatch e),rfl⟩
  | tup e => exact .inr ⟨fun a e => (nomatch e),rfl⟩
  | dict e => exact .inr ⟨fun a e => (nomatch e),rfl⟩
theorem Kn.cases_tup {H : Hp} {y : V} {t : String} (k : Kn H y t) : (∃ p xs,y = .ref p ∧ H p = some (.tup xs) ∧ t = "tuple") ∨ (lowV H y = false ∧ isSub t "tuple" = false) := by
  cases k with
  | tup e => exact .inl ⟨_,_,rfl,e,rfl⟩
  | non => exact .inr ⟨rfl,by decide⟩
  | bl b => exact .inr ⟨rfl,by decide⟩
  | str x => exact .inr ⟨rfl,by decide⟩
  | int a => exact .inr ⟨rfl,by decide⟩
  | lst e => exact .inr ⟨by simp only [lowV,e],by decide⟩
  | dict e => exact .inr ⟨by simp only [lowV,e],by decide⟩
theorem lowV_tup {H : Hp} {p : Addr} {xs : List V} (e : H p = some (.tup xs)) : lowV H (.ref p) = lowL xs := by simp only [lowV,e]
theorem lowL_len {xs : List V} (h : xs.length ≠ 2) : lowL xs = false := by
  unfold lowL
  split
  · exact absurd rfl h
  · rfl
theorem lowL_fst {y z : V} (h : ∀ a,y ≠ .int a) : lowL [y,z] = false := by
  unfold lowL
  split
  · rename_i a b e
    cases e
    exact absurd rfl (h a)
  · rfl
theorem lowL_snd {y z : V} (h : ∀ a,z ≠ .int a) : lowL [y,z] = false := by
  unfold lowL
  split
  · rename_i a b e
    cases e
    exact absurd rfl (h b)
  · rfl
theorem sz {n : Nat} (h : n ≤ 1000) : n ≤ sizeLine := Nat.le_of_lt (small1000 h)
theorem grow {H : Hp} {p : Addr} {o : HO} (h : H p = none) : ∃ H1,upd H p o = H1 ∧ Same H H1 ∧ H1 p = some o := ⟨_,rfl,Same.new h,upd_same⟩
theorem atI_mem {α : Type} {xs : List α} {k : Int} (h0 : 0 ≤ k) (h1 : k < (xs.length : Int)) : ∃ v,atI xs k = some v ∧ v ∈ xs := by
  have hk : k.toNat < xs.length := by omega
  have ek : k = ((k.toNat : Nat) : Int) := by omega
  have q := atI_nat (xs := xs) (j := k.toNat) (List.getElem?_eq_getElem hk)
  rw [← ek] at q
  exact ⟨xs[k.toNat],q,List.getElem_mem hk⟩
theorem th_tup {H : Hp} {p : Addr} {xs : List V} (e : H p = some (.tup xs)) (h : ∀ y ∈ xs,∃ t,Kn H y t) : Thing H (.ref p) := ⟨⟨_,.tup e⟩,fun p' ys e1 e2 => by
  cases e1
  rw [e] at e2
  cases e2
  exact h⟩
inductive spRatio (C : Addr) (vs : List V) (H : Hp) (Q : VK) (E : XK) : Prop
  | mk : ∀ a b : Int,(vs = [.int a,.int b]) → ((bits a ≤ 2000 ∧ bits b ≤ 2000)) → ((b = 0 → E (.ref C) none H)) → ((b ≠ 0 → ∀ (p : Addr) (t u : Int),Frac a b t u → bits t ≤ 2000 → bits u ≤ 2000 → H p = none → Q (.ref p) (upd H p (.tup [.int t,.int u])))) → spRatio C vs H Q E
theorem gcd_bits2 {a b : Int} {n : Nat} (hb : b ≠ 0) (h : bits b ≤ n) : bits (Int.gcd a b : Int) ≤ n := by
  refine bits_mono ?_ h
  have h1 : (Int.gcd a b) ∣ b.natAbs := Int.gcd_dvd_natAbs_right a b
  have h2 := Nat.le_of_dvd (by omega) h1
  omega
end Sp1
namespace L2
open PySem PySem.Spec PyProof.Rows
theorem all_same (ns ms : List Int) : ((List.range (min ns.length ms.length)).all (fun j => decide (ns[j]? = ms[j]?)) && ns.length == ms.length) = decide (ns = ms) := by
  rw [Bool.eq_iff_iff]
  simp only [Bool.and_eq_true,List.all_eq_true,List.mem_range,decide_eq_true_eq,beq_iff_eq]
  constructor
  · rintro ⟨h1,h2⟩
    refine List.ext_getElem? fun j => ?_
    by_cases hj : j < ns.length
    · exact h1 j (by omega)
    · rw [List.getElem?_eq_none (by omega),List.getElem?_eq_none (by omega)]
  · rintro rfl
    exact ⟨fun _ _ => rfl,rfl⟩
theorem val_at {ns : List Int} {us : List Value} {j : Nat} (r : Vals (ns.map V.int) us) (h : j < us.length) : ∃ a,ns[j]? = some a ∧ RelV (.int a) us[j] := by
  have hl := r.length
  rw [List.length_map] at hl
  have hj : j < ns.length := by omega
  obtain ⟨u,e,q⟩ := r.get (i := j) (x := .int ns[j]) (by rw [List.getElem?_map,List.getElem?_eq_getElem hj]; rfl)
  rw [List.getElem?_eq_getElem h] at e
  cases e
  exact ⟨ns[j],List.getElem?_eq_getElem hj,q⟩
section
variable {X : Cx}
inductive rEqI (K : PySem.W.Frag) (neg : Bool) (x : V) (y : V) (H : Hp) (Q : VK) : Prop
  | mk : ∀ (p q : Addr) (ns ms : List Int),(x = .ref p) → (y = .ref q) → (SqT K H p (ns.map V.int)) → (SqT K H q (ms.map V.int)) → (Q (.bl (if neg then !decide (ns = ms) else decide (ns = ms))) H) → rEqI K neg x y H Q
theorem items_eq {A : Around} {s : Shared} {ns ms : List Int} {us vs : List Value} (r : Vals (ns.map V.int) us) (r' : Vals (ms.map V.int) vs) (j : Nat) (h1 : j < us.toArray.size) (h2 : j < vs.toArray.size) :
    SeqAt.EqAt A s us.toArray[j] vs.toArray[j] (decide (ns[j]? = ms[j]?)) := by
  rw [List.size_toArray] at h1 h2
  obtain ⟨a,ea,ra⟩ := val_at r h1
  obtain ⟨b,eb,rb⟩ := val_at r' h2
  have q := eqAt_V (A := A) (s := s) ra rb rfl rfl
  have e : eqV (.int a) (.int b) = decide (ns[j]? = ms[j]?) := by
    rw [ea,eb]
    show (a == b) = decide (some a = some b)
    rw [Bool.eq_iff_iff]
    simp
  rw [e] at q
  exact q
theorem op_eqI (hu : X.A.units < cLine) : OpR X (compareOp .Eq) (rEqI X.K false) := by
  intro pins s σ H x y v u Q I rx ry h
  obtain ⟨p,q,ns,ms,rfl,rfl,hp,hq,k⟩ := h
  cases rx
  cases ry
  obtain ⟨its,r,pl,_⟩ := I.tuple hp
  obtain ⟨jts,r',pl',_⟩ := I.tuple hq
  refine SeqAt.eq_tupleAt pl pl' hu (items_eq r r') ⟨.bl _,H,I,rfl,?_⟩
  have e1 := r.length
  have e2 := r'.length
  rw [List.length_map] at e1 e2
  rw [List.size_toArray,List.size_toArray,← e1,← e2,all_same]
  exact k
theorem op_neI (hu : X.A.units < cLine) : OpR X (compareOp .NotEq) (rEqI X.K true) := by
  intro pins s σ H x y v u Q I rx ry h
  obtain ⟨p,q,ns,ms,rfl,rfl,hp,hq,k⟩ := h
  cases rx
  cases ry
  obtain ⟨its,r,pl,_⟩ := I.tuple hp
  obtain ⟨jts,r',pl',_⟩ := I.tuple hq
  refine SeqAt.RcNeAt.tuples pl pl' hu (items_eq r r') _ _ _ _ ⟨.bl _,H,I,rfl,?_⟩
  have e1 := r.length
  have e2 := r'.length
  rw [List.length_map] at e1 e2
  rw [List.size_toArray,List.size_toArray,← e1,← e2,all_same]
  exact k
end
end L2
namespace L2
open PySem PySem.Spec PyProof.Rows
section
variable {prog : Program} {w : World} {A : Around} {E : Value → Shared → Prop}
end
end L2
namespace L2
open PySem PySem.Spec PyProof.Rows
theorem ObjOk.has {P : Program} {w : World} {H : Hp} {h : Heap} {a : Addr} {o : HO} (x : ObjOk P w H h a o) : ∃ ob,h.get? a = some ob := by
  cases o with
  | lst xs => obtain ⟨_,_,_,_,e⟩ := x; exact ⟨_,e⟩
  | tup xs => obtain ⟨_,_,_,ob,e,_⟩ := x; exact ⟨_,e⟩
  | dK kvs => obtain ⟨_,_,_,_,ob,_,_,e,_⟩ := x; exact ⟨_,e⟩
  | dT kvs => obtain ⟨_,_,_,_,ob,_,_,e,_⟩ := x; exact ⟨_,e⟩
  | set S n => obtain ⟨ob,_,_,_,e,_⟩ := x; exact ⟨_,e⟩
  | ins C dx fs => obtain ⟨_,_,_,e,_⟩ := x; exact ⟨_,e⟩
  | own y => obtain ⟨ob,e⟩ := x; exact ⟨_,e⟩
  | xd fs => obtain ⟨_,⟨od,_,_,e,_⟩,_⟩ := x; exact ⟨_,e⟩
  | rng lo hi => obtain ⟨_,_,_,e⟩ := x; exact ⟨_,e⟩
  | frz ob u => obtain ⟨e,_⟩ := x; exact ⟨_,e⟩
  | tbl ps => exact ⟨_,(show h.get? a = some _ from x)⟩
  | met f y => exact ⟨_,(show h.get? a = some _ from x)⟩
  | ext φ => obtain ⟨_,⟨ob,e⟩,_⟩ := x; exact ⟨_,e⟩
structure Big (B : Heap) (fs : List Addr) (H' : Hp) (h : Heap) : Prop where
  tr : ∀ b o,H' b = some o → ∃ ob,B.get? b = some ob
  old : ∀ b o,h.get? b = some o → b ∉ fs → ∃ ob,B.get? b = some ob
section
variable {P : Program} {w : World} {fs fs' : List Addr} {H H1 H' : Hp} {h h1 h2 B : Heap}
theorem Un.fly (un : Un fs [] H H' h h1) (big : Big B fs H' h) (st1 : B.StaysIn h1) (st2 : B.StaysIn h2) (sl : h1.UpToSlots h2)
    (fr : ∀ b ∈ fs,H b = none ∧ ∀ o,h1.get? b = some o → ∀ vs,o.data ≠ .fields vs) : Un fs [] H H' h h2 where
  keep := fun b o e n hb hx => by
    have e1 := un.keep b o e n hb hx
    obtain ⟨ob,eb⟩ := big.old b o e hb
    have e2 := st1 b ob eb
    rw [e1] at e2
    cases e2
    exact st2 b _ eb
  slot := fun b o e n hb hx => by
    obtain ⟨s1,e1⟩ := un.slot b o e n hb hx
    obtain ⟨s2,e2⟩ := sl b _ e1 ((fr b hb).2 _ e1)
    exact ⟨s2,e2⟩
  free := un.free
  there := fun b o e hx => by
    by_cases hb : b ∈ fs
    · obtain ⟨s1,e1⟩ := un.slot b o e (fr b hb).1 hb hx
      obtain ⟨s2,e2⟩ := sl b _ e1 ((fr b hb).2 _ e1)
      exact ⟨_,e2⟩
    · obtain ⟨ob,eb⟩ := big.old b o e hb
      exact ⟨_,st2 b ob eb⟩
  tups := un.tups
  frzs := un.frzs
  tbls := un.tbls
theorem HOk.fly (hok : HOk P w H' h1) (big : Big B fs H' h) (st1 : B.StaysIn h1) (st2 : B.StaysIn h2) : HOk P w H' h2 := fun a o e => by
  refine (hok a o e).stay (fun b u hb q => ?_) (fun _ q => q) fun _ _ q => q
  have hb' : ∃ ob,B.get? b = some ob := by
    rcases hb with z | z
    · rw [z]
      exact big.tr a o e
    · exact big.tr b _ z
  obtain ⟨ob,eb⟩ := hb'
  have e2 := st1 b ob eb
  rw [q] at e2
  cases e2
  exact st2 b _ eb
theorem Un.shed (a : Un fs [] H H1 h h1) (b : Un fs' [] H1 H' h1 h2) (sub : ∀ x ∈ fs,x ∈ fs') (out : ∀ x o,h.get? x = some o → x ∈ fs' → x ∈ fs) : Un fs [] H H' h h2 where
  keep := fun x o e n hx hn => b.keep x o (a.keep x o e n hx hn) (a.free x o e n hn) (fun z => hx (out x o e z)) hn
  slot := fun x o e n hx hn => by
    obtain ⟨s1,e1⟩ := a.slot x o e n hx hn
    obtain ⟨s2,e2⟩ := b.slot x _ e1 (a.free x o e n hn) (sub x hx) hn
    exact ⟨s2,e2⟩
  free := fun x o e n hn => by
    obtain ⟨o1,e1⟩ := a.there x o e hn
    exact b.free x o1 e1 (a.free x o e n hn) hn
  there := fun x o e hn => by
    obtain ⟨o1,e1⟩ := a.there x o e hn
    exact b.there x o1 e1 hn
  tups := fun x xs e => b.tups x xs (a.tups x xs e)
  frzs := fun x o xs e => b.frzs x o xs (a.frzs x o xs e)
  tbls := fun x ps e => by
    obtain ⟨m1,e1⟩ := a.tbls x ps e
    obtain ⟨m2,e2⟩ := b.tbls x _ e1
    exact ⟨m1 ++ m2,by rw [e2,Array.append_assoc]⟩
end
def CXE (P : Program) (w : World) : CXT := fun outer H s E e s' => ∃ (ea t : Addr) (cls : Value) (H' : Hp) (B : Heap),
  e = .ref ea ∧ s'.os = s.os ∧ AllBare s'.gens ∧ Un (frs outer) [] H H' s.heap s'.heap ∧ HOk P w H' s'.heap ∧ Heap.FlyingW B outer ea cls (.ref t) s'.heap ∧ Big B (frs outer) H' s.heap ∧ E cls none H'
section
variable {P : Program} {w : World} {K : PySem.W.Frag} {mg : Str → Option Value} {base : Heap} {N : List Str} {qual : Str} {scope : Scope} {f : Addr} {cdv : Value} {A : Around} {outer : List Env} {s₀ : Shared} {H₀ : Hp} {E : XK}
theorem frs_cons {env : Env} {L : Addr} (hf : env.frame = some L) (l : List Env) : frs (env :: l) = L :: frs l := by
  unfold frs
  rw [List.filterMap_cons,hf]
theorem raised {pins : List (Addr × Obj)} {σ : St} {H : Hp} {s : Shared} {h' : Heap} {e : Addr} {cls : Value} {vs : List Value} (I : Inv (cxOf (CXE P w) P w K mg base N qual scope f cdv A outer s₀ H₀ E) pins σ H s)
    (hx : Heap.MadeExcOf s.heap h' e cls vs) (q : E cls none H) : (cxOf (CXE P w) P w K mg base N qual scope f cdv A outer s₀ H₀ E).xe (.ref e) { s with heap := h' } := by
  have hin : ∀ env ∈ (cxOf (CXE P w) P w K mg base N qual scope f cdv A outer s₀ H₀ E).stack,∀ a,env.frame = some a → a ∈ frs (cxOf (CXE P w) P w K mg base N qual scope f cdv A outer s₀ H₀ E).stack :=
    fun env he a ha => List.mem_filterMap.mpr ⟨env,he,ha⟩
  have neL : ∀ b o,s₀.heap.get? b = some o → b ∉ frs outer → b ∉ frs (cxOf (CXE P w) P w K mg base N qual scope f cdv A outer s₀ H₀ E).stack := fun b o eb hb hm => by
    rcases List.mem_cons.mp (I.stkSub b hm) with z | z
    · exact absurd z (Nat.ne_of_lt (Nat.lt_of_lt_of_le (Heap.lt_size eb) I.ok.above))
    · exact hb z
  refine wpAny_leaves_madeW (base := PySem.W.hideAll s.heap (frs (cxOf (CXE P w) P w K mg base N qual scope f cdv A outer s₀ H₀ E).stack)) (h := s.heap) (L := s₀.heap.objs.size) I.ok.frames rfl (fun b o z => PySem.W.of_hideAll _ z) (PySem.W.funFrames_hide I.stack hin) hx fun h'' t fl _ _ up => ?_
  have big : Big (PySem.W.hideAll s.heap (frs (cxOf (CXE P w) P w K mg base N qual scope f cdv A outer s₀ H₀ E).stack)) (frs outer) H s₀.heap := by
    refine ⟨fun b o eb => ?_,fun b o eb hb => ?_⟩
    · obtain ⟨ob,z⟩ := (I.hok b o eb).has
      refine ⟨ob,PySem.W.hideAll_get _ z fun hm => ?_⟩
      rw [I.stkFree b hm] at eb
      cases eb
    · obtain ⟨ob,z⟩ := I.base.there b o eb (by intro z; cases z)
      exact ⟨ob,PySem.W.hideAll_get _ z (neL b o eb hb)⟩
  have st1 : (PySem.W.hideAll s.heap (frs (cxOf (CXE P w) P w K mg base N qual scope f cdv A outer s₀ H₀ E).stack)).StaysIn s.heap := fun b o z => PySem.W.of_hideAll _ z
  have sl : s.heap.UpToSlots h'' := (Heap.UpToSlots.of_keeps hx.keeps).trans up
  exact ⟨e,t,cls,H,_,rfl,I.os,I.bare,Un.fly I.base big st1 fl.1 sl fun b hb => ⟨I.ok.frf b hb,fun o eo => by
      obtain ⟨_,o',eo',nf⟩ := I.funs.mem hb
      rw [eo] at eo'
      cases eo'
      exact nf⟩,HOk.fly I.hok big st1 fl.1,fl,big,q⟩
theorem pass_on {E1 : XK} (hE : ∀ c o H',E1 c o H' → E c o H') : Passes (CXE P w) (cxOf (CXE P w) P w K mg base N qual scope f cdv A outer s₀ H₀ E) E1 := by
  intro pins σ H s e s' I h
  obtain ⟨ea,t,cls,H',B,rfl,os,bare,un,hok,fl,big,q⟩ := h
  refine wpAny_leaves_onW (L := s₀.heap.objs.size) I.ok.frames rfl fl fun h'' fl' up => ?_
  have out : ∀ x o,s₀.heap.get? x = some o → x ∈ frs (cxOf (CXE P w) P w K mg base N qual scope f cdv A outer s₀ H₀ E).stack → x ∈ frs outer := fun x o ex hm => by
    rcases List.mem_cons.mp (I.stkSub x hm) with z | z
    · exact absurd z (Nat.ne_of_lt (Nat.lt_of_lt_of_le (Heap.lt_size ex) I.ok.above))
    · exact z
  have sub : ∀ x ∈ frs outer,x ∈ frs (cxOf (CXE P w) P w K mg base N qual scope f cdv A outer s₀ H₀ E).stack := fun x hx => by
    show x ∈ frs (_ :: outer)
    rw [frs_cons (L := s₀.heap.objs.size) rfl]
    exact List.mem_cons_of_mem _ hx
  have un1 : Un (frs outer) [] H₀ H' s₀.heap s'.heap := Un.shed I.base un sub out
  have big1 : Big B (frs outer) H' s₀.heap := by
    refine ⟨big.tr,fun b o eb hb => ?_⟩
    obtain ⟨ob,z⟩ := I.base.there b o eb (by intro z; cases z)
    exact big.old b ob z fun hm => hb (out b o eb hm)
  refine ⟨ea,t,cls,H',B,rfl,os.trans I.os,bare,Un.fly un1 big1 fl.1 fl'.1 up fun b hb => ⟨I.ok.frf b hb,fun o eo => ?_⟩,HOk.fly hok big1 fl.1 fl'.1,fl',big1,hE _ _ _ q⟩
  obtain ⟨_,o',eo',nf⟩ := fl'.2.2.1.mem hb
  obtain ⟨_,o2,eo2,nf2⟩ := fl.2.2.1.mem (sub b hb)
  rw [eo] at eo2
  cases eo2
  exact nf2
end
structure ExcC (K : PySem.W.Frag) (mg : Str → Option Value) (x : Str) (C : Addr) : Prop where
  bound : mg x = some (.ref C)
  obj : ∀ h : Heap,K.In h → ∃ bm N nm qn bs hd sn sub ab col dd k0 k1 k2 k3 k5 mN,h.get? C = some (excClassObj nm qn C N bs bm hd sn sub ab col dd k0 k1 k2 k3 k5 "ValueError.__new__") ∧ h.Ns N mN ∧ mN "__init__" = none ∧
    OwnTail h [.type "ValueError",.type "Exception",.type "BaseException",.type "object"] bm
theorem exc_obj {K : PySem.W.Frag} {h : Heap} {C : Addr} {bmB : List Value} {newId : String} (X : K.In h) (q : PySem.W.excIn K C bmB newId = true) :
    ∃ bm N nm qn bs hd sn sub ab col dd k0 k1 k2 k3 k5 mN,h.get? C = some (excClassObj nm qn C N bs bm hd sn sub ab col dd k0 k1 k2 k3 k5 newId) ∧ h.Ns N mN ∧ mN "__init__" = none ∧ OwnTail h bmB bm := by
  unfold PySem.W.excIn at q
  split at q
  next dct cl sls look =>
    split at q
    next C2 bms a0 a1 a2 a3 nid a5 hmro hsls =>
      simp only [Bool.not_eq_true',beq_iff_eq,Bool.and_eq_true] at q
      obtain ⟨⟨⟨⟨⟨q1,q2⟩,q3⟩,q4⟩,q5⟩,q6⟩ := q
      subst q1 q2
      obtain ⟨c1,c2,c3,c4,c5,c6,c7,c8,c9,c10,c11⟩ := cl
      dsimp only at hmro q3 q5 q6
      subst hmro q3
      obtain ⟨lst⟩ := sls
      simp only at hsls
      subst hsls
      exact ⟨bms,c4,c1,c5,c2,c6,c7,c8,c9,c10,dct,a0,a1,a2,a3,a5,_,X _ _ look,.of_isNs (PySem.W.isNs_of_in X q5),PySem.W.nsMap_none_of_in X q5 q6,PySem.W.tail_of_in X q4⟩
    next => cases q
  next => cases q
theorem exc_mk {K : PySem.W.Frag} {mg : Str → Option Value} {h : Heap} {x : Str} {C : Addr} (X : K.In h) (G : h.Ns mainGlobals mg) (a : PySem.W.nsIn K mainGlobals x = some (some (.ref C)))
    (q : PySem.W.excIn K C [.type "ValueError",.type "Exception",.type "BaseException",.type "object"] "ValueError.__new__" = true) : ExcC K mg x C := ⟨PySem.W.mg_of X G a,fun _ Y => exc_obj Y q⟩
section
variable {P : Program} {w : World} {K : PySem.W.Frag} {mg : Str → Option Value} {base : Heap} {N : List Str} {qual : Str} {scope : Scope} {f : Addr} {cdv : Value} {A : Around} {outer : List Env} {s₀ : Shared} {H₀ : Hp} {E : XK}
theorem ps_raise {x : Str} {C : Addr} {np cpos pos : Pos} (O : ExcC K mg x C) (hg : Gl (cxOf (CXE P w) P w K mg base N qual scope f cdv A outer s₀ H₀ E) x) (hdb : (x == ("__debug__" : Str)) = false := by decide) :
    PS (cxOf (CXE P w) P w K mg base N qual scope f cdv A outer s₀ H₀ E) (.Raise (some (.Call (.Name x np) [] [] cpos)) none pos) (fun _ _ H => E (.ref C) none H) := by
  intro pins s σ H D I h
  obtain ⟨bm,N',nm,qn,bs,hd,sn,sub,ab,col,dd,k0,k1,k2,k3,k5,mN,hC,hN,hni,T⟩ := O.obj s.heap I.kIn
  refine wpAny_Raise_call_subT (C := C) (nm := nm) (q := qn) (N := N') (bs := bs) (bm := bm) (hdct := hd) (sn := sn) (sub := sub) (ab := ab) (col := col) (dd := dd) (k0 := k0) (k1 := k1) (k2 := k2) (k3 := k3) (k5 := k5) PySem.F.excBase_ValueError (mN := mN) (T.hasType (by decide +kernel)) (I.ok.hd rfl) rfl hni (ld_glob I hg O.bound ⟨rfl,?_⟩ hdb)
  exact evalArgs_empty ⟨rfl,Nat.zero_le _,hC,hN,T,fun h' e hx => raised I hx h⟩
end
section
variable {X : Cx}
end
structure Fx (P : Program) (w : World) (K : PySem.W.Frag) (mg : Str → Option Value) (base : Heap) (x : Str) (ps : List Str) (k : Nat) (ds : List V) (sp : Sp) : Prop where
  ex : ∃ (f : Addr) (fd : FuncData) (its : List Value),mg x = some (.ref f) ∧ PySem.W.keepIn K (.ref f) = true ∧ Binds K fd ps [] ∧ Binds K fd ps its ∧ Vals ds its ∧ FnOk P w K mg base (CXE P w) k f fd ps sp
structure DfD (K : PySem.W.Frag) (mg : Str → Option Value) (x : Str) (st : Stmt) (ds : List V) : Prop where
  ex : ∃ (f T : Addr) (oT : Obj) (n : Nat) (its : List Value) (oc : Value) (od : Option Addr) (kV doc pm : Value) (an : Option Addr) (cdv ct : Value) (osl : Array (Option Value)),
    mg x = some (.ref f) ∧ K.lookup f = some ⟨oc,od,.func (PySem.W.fnOf x x (defArgs st) (defBody st) (defScope st) (.ref T) kV doc pm an cdv ct),osl⟩ ∧ PySem.W.codeIn K cdv x = true ∧ PySem.W.keepIn K (.ref f) = true ∧ K.lookup T = some oT ∧ oT.data = .seq its.toArray n ∧ Vals ds its
theorem dfd_mk {K : PySem.W.Frag} {mg : Str → Option Value} {h : Heap} {x : Str} {st : Stmt} {ds : List V} {its : List Value} {f T : Addr} {oT : Obj} {n : Nat} {oc : Value} {od an : Option Addr} {osl : Array (Option Value)} {kV doc pm cdv ct : Value} (X : K.In h) (G : h.Ns mainGlobals mg)
    (a : PySem.W.nsIn K mainGlobals x = some (some (.ref f))) (l : K.lookup f = some ⟨oc,od,.func (PySem.W.fnOf x x (defArgs st) (defBody st) (defScope st) (.ref T) kV doc pm an cdv ct),osl⟩) (c : PySem.W.codeIn K cdv x = true) (k : PySem.W.keepIn K (.ref f) = true)
    (t : K.lookup T = some oT) (d : oT.data = .seq its.toArray n) (v : Vals ds its) : DfD K mg x st ds := ⟨⟨f,T,oT,n,its,oc,od,kV,doc,pm,an,cdv,ct,osl,PySem.W.mg_of X G a,l,c,k,t,d,v⟩⟩
theorem DfD.fx {P : Program} {w : World} {K : PySem.W.Frag} {mg : Str → Option Value} {base : Heap} {x : Str} {st : Stmt} {ds : List V} {N ps : List Str} {k : Nat} {sp : Sp} (D : DfD K mg x st ds) (S : FnScope N ps (defScope st))
    (hb : ∀ (T : Addr) (kV doc pm : Value) (an : Option Addr) (cdv ct : Value) (us its : List Value) (oT : Obj) (n : Nat) (s : Shared),Vals ds its → us.length = ps.length → s.heap.get? T = some oT → oT.data = .seq its.toArray n →
      BindsTo s (PySem.W.fnOf x x (defArgs st) (defBody st) (defScope st) (.ref T) kV doc pm an cdv ct) ⟨us,[]⟩ (ps.zip us))
    (hd : ∀ (T : Addr) (kV doc pm : Value) (an : Option Addr) (cdv ct : Value) (us its : List Value) (oT : Obj) (n : Nat) (s : Shared),Vals ds its → (us ++ its).length = ps.length → s.heap.get? T = some oT → oT.data = .seq its.toArray n →
      BindsTo s (PySem.W.fnOf x x (defArgs st) (defBody st) (defScope st) (.ref T) kV doc pm an cdv ct) ⟨us,[]⟩ (ps.zip (us ++ its)))
    (len : ∀ vs H Q E,sp vs H Q E → vs.length = ps.length)
    (hbody : ∀ (f : Addr) (cdv : Value) (A : Around) (outer : List Env) (s : Shared) (H : Hp) (vs : List V) (Q : VK) (E : XK),Room k (A.deeper (envOfC x (defScope st) s.heap.objs.size f cdv)) → sp vs H Q E →
      ∃ t,PSs (cxOf (CXE P w) P w K mg base N x (defScope st) f cdv A outer s H E) (defBody st) t ∧ t { nx := fun _ H' => Q .non H',rt := Q } (start N vs) H) : Fx P w K mg base x ps (k + 1) ds sp := by
  obtain ⟨f,T,oT,n,its,oc,od,kV,doc,pm,an,cdv,ct,osl,hm,lk,hcd,hk,hT,hs,hv⟩ := D.ex
  refine ⟨⟨f,_,its,hm,hk,fun s us KX hl => ?_,fun s us KX hl => hd T kV doc pm an cdv ct us its oT n s hv hl (KX _ _ hT) hs,hv,fn_of lk hcd S len fun A outer s H vs Q E hr hsp => hbody f cdv A outer s H vs Q E hr hsp⟩⟩
  rw [List.append_nil] at hl ⊢
  exact hb T kV doc pm an cdv ct us its oT n s hv hl (KX _ _ hT) hs
theorem Df.fx {P : Program} {w : World} {K : PySem.W.Frag} {mg : Str → Option Value} {base : Heap} {x : Str} {st : Stmt} {N ps : List Str} {k : Nat} {sp : Sp} (D : Df K mg x st) (S : FnScope N ps (defScope st))
    (hbind : ∀ (kV doc pm : Value) (an : Option Addr) (cdv ct : Value) (us : List Value),us.length = ps.length → bindArgs (PySem.W.fnOf x x (defArgs st) (defBody st) (defScope st) .none kV doc pm an cdv ct) ⟨us,[]⟩ = pure (ps.zip us))
    (len : ∀ vs H Q E,sp vs H Q E → vs.length = ps.length)
    (hbody : ∀ (f : Addr) (cdv : Value) (A : Around) (outer : List Env) (s : Shared) (H : Hp) (vs : List V) (Q : VK) (E : XK),Room k (A.deeper (envOfC x (defScope st) s.heap.objs.size f cdv)) → sp vs H Q E →
      ∃ t,PSs (cxOf (CXE P w) P w K mg base N x (defScope st) f cdv A outer s H E) (defBody st) t ∧ t { nx := fun _ H' => Q .non H',rt := Q } (start N vs) H) : Fx P w K mg base x ps (k + 1) [] sp := by
  obtain ⟨f,oc,od,kV,doc,pm,an,cdv,ct,osl,hm,lk,hcd,hk⟩ := D.ex
  have hb : Binds K (PySem.W.fnOf x x (defArgs st) (defBody st) (defScope st) .none kV doc pm an cdv ct) ps [] := .all (hbind kV doc pm an cdv ct)
  exact ⟨⟨f,_,[],hm,hk,hb,hb,.nil,fn_of lk hcd S len fun A outer s H vs Q E hr hsp => hbody f cdv A outer s H vs Q E hr hsp⟩⟩
theorem pe_fx {P : Program} {w : World} {K : PySem.W.Frag} {mg : Str → Option Value} {base : Heap} {N : List Str} {qual : Str} {scope : Scope} {f : Addr} {cdv : Value} {A : Around} {outer : List Env} {s₀ : Shared} {H₀ : Hp} {E : XK}
    {x : Str} {ps : List Str} {k : Nat} {ds : List V} {sp : Sp} {p pos : Pos} {e : Expr} {es : List Expr} {t : TA} (F : Fx P w K mg base x ps k ds sp) (hr : Room k (cxOf (CXE P w) P w K mg base N qual scope f cdv A outer s₀ H₀ E).A) (hg : Gl (cxOf (CXE P w) P w K mg base N qual scope f cdv A outer s₀ H₀ E) x)
    (ha : PA (cxOf (CXE P w) P w K mg base N qual scope f cdv A outer s₀ H₀ E) (e :: es) t)
    (hdb : (x == ("__debug__" : Str)) = false := by decide) (he : starEach (e :: es) (cxOf (CXE P w) P w K mg base N qual scope f cdv A outer s₀ H₀ E).env = (false,eval e (cxOf (CXE P w) P w K mg base N qual scope f cdv A outer s₀ H₀ E).env) :: starEach es (cxOf (CXE P w) P w K mg base N qual scope f cdv A outer s₀ H₀ E).env := by rfl)
    (hpl : (backTo pos (starEach es (cxOf (CXE P w) P w K mg base N qual scope f cdv A outer s₀ H₀ E).env)).any (·.1) = false := by rfl) :
    PE (cxOf (CXE P w) P w K mg base N qual scope f cdv A outer s₀ H₀ E) (.Call (.Name x p) (e :: es) [] pos) (tCall sp [] E t) := by
  obtain ⟨g,fd,its,hm,hk,hb,_,_,G⟩ := F.ex
  exact pe_call G hr hg hm hk hb .nil (pass_on fun _ _ _ z => z) ha hdb he hpl
theorem pass_none {P : Program} {w : World} {X : Cx} : Passes (CXE P w) X E0 := fun _ _ _ _ _ _ _ h => by
  obtain ⟨_,_,_,_,_,_,_,_,_,_,_,_,q⟩ := h
  exact q.elim
theorem pe_fx0 {X : Cx} {x : Str} {ps : List Str} {k : Nat} {ds : List V} {sp : Sp} {p pos : Pos} {e : Expr} {es : List Expr} {t : TA} (F : Fx X.prog X.w X.K X.mg X.base x ps k ds sp) (hr : Room k X.A) (hg : Gl X x) (ha : PA X (e :: es) t)
    (hdb : (x == ("__debug__" : Str)) = false := by decide) (he : starEach (e :: es) X.env = (false,eval e X.env) :: starEach es X.env := by rfl) (hpl : (backTo pos (starEach es X.env)).any (·.1) = false := by rfl) :
    PE X (.Call (.Name x p) (e :: es) [] pos) (tCall sp [] E0 t) := by
  obtain ⟨g,fd,its,hm,hk,hb,_,_,G⟩ := F.ex
  exact pe_call G hr hg hm hk hb .nil pass_none ha hdb he hpl
theorem pe_fxd0 {X : Cx} {x : Str} {ps : List Str} {k : Nat} {ds : List V} {sp : Sp} {p pos : Pos} {e : Expr} {es : List Expr} {t : TA} (F : Fx X.prog X.w X.K X.mg X.base x ps k ds sp) (hr : Room k X.A) (hg : Gl X x) (ha : PA X (e :: es) t)
    (hdb : (x == ("__debug__" : Str)) = false := by decide) (he : starEach (e :: es) X.env = (false,eval e X.env) :: starEach es X.env := by rfl) (hpl : (backTo pos (starEach es X.env)).any (·.1) = false := by rfl) :
    PE X (.Call (.Name x p) (e :: es) [] pos) (tCall sp ds E0 t) := by
  obtain ⟨g,fd,its,hm,hk,_,hb,hv,G⟩ := F.ex
  exact pe_call G hr hg hm hk hb hv pass_none ha hdb he hpl
section
variable {X : Cx}
variable {x fn : Str} {i : Nat} {ps : List Str} {k : Nat} {ds : List V} {sp : Sp} {e : Expr} {es : List Expr} {ta : TA} {px pf cpos pos : Pos}
end
end L2
namespace Sp2
open PySem PySem.Spec L2 Mth Sp1
def placeL (n : Int) : List V → Bool
  | [.int a,.int b] => lowB a b && (decide (0 ≤ a) && decide (a ≤ n * b))
  | _ => false
def placeV (n : Int) (H : Hp) : V → Bool
  | .ref p => match H p with
    | some (.tup xs) => placeL n xs
    | _ => false
  | _ => false
theorem lowV_inv {H : Hp} {x : V} (h : lowV H x = true) : ∃ p a b,x = .ref p ∧ H p = some (.tup [.int a,.int b]) ∧ Low a b := by
  unfold lowV at h
  split at h
  · split at h
    · rename_i p _ xs e
      unfold lowL at h
      split at h
      · rename_i a b
        unfold lowB at h
        rw [Bool.and_eq_true,decide_eq_true_eq,decide_eq_true_eq] at h
        exact ⟨p,a,b,rfl,e,h.1,h.2⟩
      · cases h
    · cases h
  · cases h
theorem placeV_tup {n : Int} {H : Hp} {p : Addr} {a b : Int} (e : H p = some (.tup [.int a,.int b])) : placeV n H (.ref p) = (lowB a b && (decide (0 ≤ a) && decide (a ≤ n * b))) := by
  simp only [placeV,e,placeL]
theorem lowV_two {H : Hp} {p : Addr} {a b : Int} (e : H p = some (.tup [.int a,.int b])) : lowV H (.ref p) = lowB a b := by
  simp only [lowV,e,lowL]
theorem placeV_low {n : Int} {H : Hp} {x : V} (h : lowV H x = false) : placeV n H x = false := by
  unfold placeV
  split
  · split
    · rename_i p _ xs e
      unfold placeL
      split
      · rename_i a b
        rw [lowV_two e] at h
        rw [h,Bool.false_and]
      · rfl
    · rfl
  · rfl
theorem low_B {a b : Int} (h : Low a b) : lowB a b = true := by
  unfold lowB
  rw [decide_eq_true h.pos,decide_eq_true h.one]
  rfl
theorem placeV_of {n : Int} {H : Hp} {p : Addr} {a b : Int} (e : H p = some (.tup [.int a,.int b])) (h : Low a b) (h0 : 0 ≤ a) (h1 : a ≤ n * b) : placeV n H (.ref p) = true := by
  rw [placeV_tup e,low_B h,decide_eq_true h0,decide_eq_true h1]
  rfl
theorem placeV_inv {n : Int} {H : Hp} {x : V} (h : placeV n H x = true) : ∃ p a b,x = .ref p ∧ H p = some (.tup [.int a,.int b]) ∧ Low a b ∧ 0 ≤ a ∧ a ≤ n * b := by
  cases hl : lowV H x with
  | false =>
    rw [placeV_low hl] at h
    cases h
  | true =>
    obtain ⟨p,a,b,rfl,e,lw⟩ := lowV_inv hl
    rw [placeV_tup e,low_B lw,Bool.true_and,Bool.and_eq_true,decide_eq_true_eq,decide_eq_true_eq] at h
    exact ⟨p,a,b,rfl,e,lw,h.1,h.2⟩
inductive spLast (vs : List V) (H : Hp) (Q : VK) (x_3 : XK) : Prop
  | mk : ∀ (p : Addr) (xs : List V),(vs = [.ref p]) → (H p = some (.lst xs)) → (Q (.int ((xs.length : Int) - 1)) H) → spLast vs H Q x_3
inductive spIsPlace (vs : List V) (H : Hp) (Q : VK) (x_3 : XK) : Prop
  | mk : ∀ (p : Addr) (xs : List V) (x : V),(vs = [.ref p,x]) → (H p = some (.lst xs)) → (xs.length ≤ 100) → (Thing H x) → (Q (.bl (placeV ((xs.length : Int) - 1) H x)) H) → spIsPlace vs H Q x_3
inductive spLook (C : Addr) (vs : List V) (H : Hp) (Q : VK) (E : XK) : Prop
  | mk : ∀ (p : Addr) (xs : List V) (x : V),(vs = [.ref p,x]) → (H p = some (.lst xs)) → (xs.length ≤ 100) → (Thing H x) → ((placeV ((xs.length : Int) - 1) H x = false → E (.ref C) none H)) → ((placeV ((xs.length : Int) - 1) H x = true → Q .non H)) → spLook C vs H Q E
def shareB (a b c d : Int) : Bool := if c * b < a * d then !decide ((c / d + 1) * b < a * 1) else !decide ((a / b + 1) * d < c * 1)
structure Small (a b : Int) : Prop where
  pos : 0 < b
  ba : bits a ≤ 1000
  bb : bits b ≤ 1000
inductive spShare (vs : List V) (H : Hp) (Q : VK) (x_3 : XK) : Prop
  | mk : ∀ (p q : Addr) (a b c d : Int),(vs = [.ref p,.ref q]) → (H p = some (.tup [.int a,.int b])) → (H q = some (.tup [.int c,.int d])) → (Small a b) → (Small c d) → (∀ H',Same H H' → Q (.bl (shareB a b c d)) H') → spShare vs H Q x_3
structure LineAt (H : Hp) (l : Addr) (qs : List (Addr × Int × Int)) : Prop where
  lst : H l = some (.lst (qs.map fun q => V.ref q.1))
  crn : ∀ q ∈ qs,H q.1 = some (.tup [.int q.2.1,.int q.2.2]) ∧ bits q.2.1 ≤ 50 ∧ bits q.2.2 ≤ 50
theorem LineAt.mono {H H' : Hp} {l : Addr} {qs : List (Addr × Int × Int)} (L : LineAt H l qs) (s : Same H H') : LineAt H' l qs := ⟨s _ _ L.lst,fun q h => ⟨s _ _ (L.crn q h).1,(L.crn q h).2⟩⟩
theorem lt64s {n : Int} (h0 : -1000 ≤ n) (h1 : n ≤ 1000) : -(2 ^ 64) < n ∧ n < 2 ^ 64 := by
  have e : (2 : Int) ^ 64 = 18446744073709551616 := by decide
  rw [e]
  omega
theorem at_int {ns : List Int} {k : Int} (j : Nat) (e : k = (j : Int)) (h : j < ns.length) : atI (ns.map V.int) k = some (.int ns[j]) := by
  subst e
  exact atI_nat (by rw [List.getElem?_map,List.getElem?_eq_getElem h]; rfl)
theorem at_head (x : V) (xs : List V) : atI (x :: xs) 0 = some x := atI_nat (j := 0) rfl
theorem cut_from {ns : List Int} (k : Nat) : cutV (ns.map V.int) (some (k : Int)) none = (ns.drop k).map V.int := by
  unfold cutV
  rw [HT.sIx_nat,HT.sIx_none,List.length_map,← List.map_drop]
  by_cases h : k ≤ ns.length
  · rw [Nat.min_eq_left h,List.take_of_length_le (by rw [List.length_map,List.length_drop]; exact Nat.le_refl _)]
  · rw [Nat.min_eq_right (by omega),List.drop_eq_nil_of_le (Nat.le_refl _),List.drop_eq_nil_of_le (by omega)]
    simp
theorem bits_small {n : Int} (h0 : -1000 ≤ n) (h1 : n ≤ 1000) : bits n ≤ 10 := by
  refine bits_of (n := 10) ?_
  show _ < 1024
  omega
theorem fl_le {a b : Int} (hb : 0 < b) : a / b * b ≤ a := by
  have h1 := Int.emod_nonneg a (show b ≠ 0 by omega)
  have h2 := Int.emod_add_mul_ediv a b
  rw [Int.mul_comm] at h2
  omega
theorem fl_lt {a b : Int} (hb : 0 < b) : a < (a / b + 1) * b := by
  have h1 := Int.emod_lt_of_pos a hb
  have h2 := Int.emod_add_mul_ediv a b
  rw [Int.add_mul,Int.one_mul,Int.mul_comm]
  omega
theorem fl_ge {a b k : Int} (hb : 0 < b) (h : k * b ≤ a) : k ≤ a / b := (Int.le_ediv_iff_mul_le hb).mpr h
theorem fl_nn {a b : Int} (hb : 0 < b) (h : 0 ≤ a) : 0 ≤ a / b := Int.ediv_nonneg h (by omega)
theorem low_add {t b n : Int} (h : Low t b) : Low (n * b + t) b := by
  refine ⟨h.pos,?_⟩
  have e : Int.gcd (n * b + t) b = Int.gcd t b := by
    rw [Int.add_comm,Int.gcd_comm,Int.gcd_comm t b]
    exact Int.gcd_add_mul_right_right b t n
  rw [e]
  exact h.one
end Sp2
namespace L2
open PySem PySem.Spec PyProof.Rows
theorem op_isnotB {X : Cx} : OpR X (compareOp .IsNot) (fun x y H Q => ∃ a b,x = .bl a ∧ y = .bl b ∧ Q (.bl (!(a == b))) H) := by
  intro pins s σ H x y v u Q I rx ry h
  obtain ⟨a,b,rfl,rfl,q⟩ := h
  cases rx
  cases ry
  refine wpAny_isNot_plain (by cases a <;> cases b <;> rfl) ⟨.bl _,H,I,?_,q⟩
  cases a <;> cases b <;> rfl
end L2
namespace L2
open PySem PySem.Spec PyProof.Rows
abbrev Cx.blk (X : Cx) (N' : List Str) (scope : Scope) (cl : List (Str × Addr)) (fp : List Addr) (s₀ : Shared) (H₀ : Hp) : Cx :=
  { X with N := N',s₀ := s₀,H₀ := H₀,env := compEnvC scope cl s₀.heap.objs.size X.env,outer := X.stack,ex := fp,fn := fun _ => false,pn := [],xe := fun _ _ => False }
theorem lookup_mem {α : Type} {y : Str} {c : α} : ∀ {l : List (Str × α)},l.lookup y = some c → (y,c) ∈ l
  | [],h => by simp at h
  | (n,d) :: r,h => by
    rw [List.lookup_cons] at h
    cases e : y == n with
    | true =>
      rw [e] at h
      cases h
      rw [beq_iff_eq.mp e]
      exact List.mem_cons_self
    | false =>
      rw [e] at h
      exact List.mem_cons_of_mem _ (lookup_mem h)
structure CompN (X : Cx) (scope : Scope) (cl : List (Str × Addr)) (x : Str) (fv : List (Str × Nat)) : Prop where
  clos : closureFor scope X.env = pure cl
  kind : scope.kind = .function
  cell : ∀ y ∈ scope.names,y.2 ≠ .cell
  names : ∀ y ∈ scope.names,y.2 = .local → scope.names.lookup y.1 = some .local
  own : scope.names.lookup x = some .local
  cells : ∀ p ∈ cl,X.env.cells.lookup p.1 = some p.2
  has : ((relabel scope X.env).names.all fun q => !(q.2 == .cell || q.2 == .free) || (cl.lookup q.1).isSome) = true
  nd : (x :: fv.map (·.1)).Nodup
  slot : ∀ p ∈ fv,X.N[p.2]? = some p.1 ∧ X.env.kindOf p.1 = some .cell ∧ Vis X.env.scope p.1 ∧ (cl.lookup p.1).isSome = true ∧ ((relabel scope X.env).names.lookup p.1 = some .cell)
  stk : X.stack = X.env :: X.outer ∧ X.env.frame = some X.env.locals
  noex : X.ex = []
def fvs (fv : List (Str × Nat)) (σ : St) : St := fv.map fun p => (σ[p.2]?).join
def tComp (wi : TI) (fv : List (Str × Nat)) (te : TE) : TE := fun σ H Q => wi σ H fun J H1 => ∀ p,H1 p = none → ∃ W : Nat → Nat → List V → Hp → Prop,(∃ m,W 0 m [] (upd H1 p (.lst []))) ∧ ∀ i m acc H2,W i m acc H2 →
  H2 p = some (.lst acc) ∧ acc.length < sizeLine ∧ ((J.stop i H2 ∧ Q (.ref p) H2) ∨ (J.go i H2 ∧ ∀ x H3,J.yld i H2 x H3 → te (some x :: fvs fv σ) H3 fun y H4 => H4 p = some (.lst acc) ∧ ∃ m',m' < m ∧ W (i + 1) m' (acc ++ [y]) (upd H4 p (.lst (acc ++ [y])))))
section
variable {X : Cx} {scope : Scope} {cl : List (Str × Addr)} {x : Str} {fv : List (Str × Nat)} {elt iter : Expr} {px pos : Pos} {te : TE}
theorem blk_ok {pins : List (Addr × Obj)} {σ : St} {H : Hp} {s : Shared} {fp : List Addr} (C : CompN X scope cl x fv) (I : Inv X pins σ H s) (hf : ∀ b ∈ fp,FpOk X pins H b) (ho : ∀ b ∈ fp,b < s.heap.objs.size) : (X.blk (x :: fv.map (·.1)) scope cl fp s H).Ok := by
  have hcl : ∀ y c,cl.lookup y = some c → X.env.cells.lookup y = some c := fun y c h => C.cells _ (lookup_mem h)
  have old : ∀ b ∈ fp,X.s₀.heap.objs.size ≤ b := fun b hb => by
    rcases (hf b hb).2.2.2.1 with z | z
    · rw [C.noex] at z
      cases z
    · exact z
  refine ⟨I.ok.mod,by show (relabel scope X.env).kind = _; exact C.kind,I.ok.glob,I.ok.blt,Nat.le_refl _,fun y z c h1 h2 => I.ok.inj y z c (hcl y c h1) (hcl z c h2),fun y hy => ?_,(fun y c h => by cases h),I.ok.hd,I.ok.frames,.inl rfl,fun b hb => ?_,fun b o e => I.bs b o e,Nat.le_trans I.ok.bsz I.sz,fun b o e hb => ?_,fun b hb hm => ?_,I.stack,I.stkFree⟩
  · have q := C.has
    rw [List.all_eq_true] at q
    have hm : ∃ k,(y,k) ∈ (relabel scope X.env).names ∧ (k = .cell ∨ k = .free) := by
      rcases hy with hy | hy
      · exact ⟨_,lookup_mem hy,.inl rfl⟩
      · exact ⟨_,lookup_mem hy,.inr rfl⟩
    obtain ⟨k,hk,hk2⟩ := hm
    have q2 := q _ hk
    have q3 : (cl.lookup y).isSome = true := by
      rcases hk2 with rfl | rfl
      · simpa using q2
      · simpa using q2
    exact Option.isSome_iff_exists.mp q3
  · obtain ⟨f0,f1,f2,f3,f4,f5⟩ := hf b hb
    refine ⟨?_,fun y c h => f4 y c (hcl y c h)⟩
    exact Nat.ne_of_lt (ho b hb)
  · have z := Heap.lt_size e
    have z2 := old b hb
    exact absurd (Nat.lt_of_lt_of_le z (Nat.le_trans I.ok.bsz z2)) (Nat.lt_irrefl _)
  · obtain ⟨f0,f1,f2,f3,f4,f5⟩ := hf b hb
    rcases List.mem_cons.mp (I.stkSub b hm) with z | z
    · exact f1 z
    · exact f2 z
theorem blk_inv {pins : List (Addr × Obj)} {σ : St} {H : Hp} {s s4 : Shared} {fp : List Addr} (C : CompN X scope cl x fv) (I : Inv X pins σ H s) (hf : ∀ b ∈ fp,FpOk X pins H b) (ho : ∀ b ∈ fp,b < s.heap.objs.size)
    (hs : s4.os = s.os ∧ s4.gens = s.gens) (ns : s4.heap.Ns s.heap.objs.size fun _ => none) (kp : ∀ b o,s.heap.get? b = some o → s4.heap.get? b = some o) :
    Inv (X.blk (x :: fv.map (·.1)) scope cl fp s H) [] (none :: fvs fv σ) H s4 := by
  have hcl : ∀ y c,cl.lookup y = some c → X.env.cells.lookup y = some c := fun y c h => C.cells _ (lookup_mem h)
  refine ⟨blk_ok C I hf ho,hs.1,by rw [hs.2]; exact I.bare,Un.kept kp,⟨_,ns,fun i y v e1 e2 e3 => ?_⟩,fun y c h => ?_,I.hok.fresh (Nat.le_refl _),fun y c h => I.freeC y c (hcl y c h),fun p hp => by simp at hp,I.hok.kept kp,by simp [fvs]⟩
  · cases i with
    | zero => simp at e2
    | succ j =>
      have e1' : (fv.map (·.1))[j]? = some y := by simpa using e1
      have e2' : (fvs fv σ)[j]? = some (some v) := by simpa using e2
      rw [List.getElem?_map] at e1'
      unfold fvs at e2'
      rw [List.getElem?_map] at e2'
      cases hq : fv[j]? with
      | none =>
        rw [hq] at e1'
        cases e1'
      | some q =>
        rw [hq] at e1' e2'
        have ey : q.1 = y := Option.some.inj e1'
        have ev : (σ[q.2]?).join = some v := Option.some.inj e2'
        have hm : q ∈ fv := List.mem_of_getElem? hq
        obtain ⟨s1,s2,s3,s4',s5⟩ := C.slot q hm
        have ev2 : σ[q.2]? = some (some v) := by
          cases hz : σ[q.2]? with
          | none =>
            rw [hz] at ev
            cases ev
          | some z =>
            rw [hz] at ev
            have ev' : z = some v := ev
            rw [ev']
        obtain ⟨m,hn,hl⟩ := I.loc
        obtain ⟨u,r,lk⟩ := hl q.2 q.1 v s1 ev2 s3
        obtain ⟨c,hc⟩ := Option.isSome_iff_exists.mp s4'
        refine ⟨u,r,.inr ⟨.inl (by rw [← ey]; exact s5),c,by rw [← ey]; exact hc,?_⟩⟩
        rcases lk with ⟨k,_⟩ | ⟨_,c',hc',z⟩
        · rw [s2] at k
          cases k
        · rw [hcl _ _ hc] at hc'
          cases hc'
          obtain ⟨o,ho',hd⟩ := z
          exact ⟨o,kp _ _ ho',hd⟩
  · obtain ⟨v,o,ho',hd⟩ := I.cell y c (hcl y c h)
    exact ⟨v,o,kp _ _ ho',hd⟩
theorem blk_run {pins : List (Addr × Obj)} {σ : St} {H2 : Hp} {s2 : Shared} {it : Addr} {fp : List Addr} {tn : Nat → Heap → Prop} {J : It} {RR : Value → Addr → Result → Shared → Prop} {E : Value → Shared → Prop} {Qf : V → Hp → Prop}
    (hcalm : X.calm = true) (C : CompN X scope cl x fv) (I2 : Inv X pins σ H2 s2) (T : Turn X.prog X.w X.K (.Name x px) J fp it tn) (st : tn 0 s2.heap) (f2 : ∀ b ∈ fp,FpOk X pins H2 b)
    (rd : ∀ p,H2 p = none → ∃ W : Nat → Nat → List V → Hp → Prop,(∃ m,W 0 m [] (upd H2 p (.lst []))) ∧ ∀ i m acc H2,W i m acc H2 →
      H2 p = some (.lst acc) ∧ acc.length < sizeLine ∧ ((J.stop i H2 ∧ Qf (.ref p) H2) ∨ (J.go i H2 ∧ ∀ x H3,J.yld i H2 x H3 → te (some x :: fvs fv σ) H3 fun y H4 => H4 p = some (.lst acc) ∧ ∃ m',m' < m ∧ W (i + 1) m' (acc ++ [y]) (upd H4 p (.lst (acc ++ [y]))))))
    (he : ∀ (s₀ : Shared) (H₀ : Hp),PE (X.blk (x :: fv.map (·.1)) scope cl fp s₀ H₀) elt te)
    (hRR : ∀ (p C : Addr) (H' : Hp) (s' : Shared),(∃ m,s'.heap.Ns C m) → C ≠ X.env.locals → H' C = none → X.s₀.heap.objs.size ≤ C → (∀ y c,X.env.cells.lookup y = some c → c ≠ C) → (∀ q ∈ X.pn ++ pins,q.1 ≠ C) → Inv X pins σ H' s' → Qf (.ref p) H' → RR (.ref p) C (.ok .next) s') :
    wpAny (model X.prog X.w) X.A (newList []) (fun acc s₃ => wpAny (model X.prog X.w) X.A (newFunctionEnv scope X.env.globals cl [] X.env.qual none .none (some X.env)) (fun cenv s₄ =>
      codeAny (model X.prog X.w) X.A (.compStart (.ListComp elt [⟨.Name x px,iter,[],0⟩] scope pos) 0 (.ref it) acc { cenv with scope := relabel scope X.env }) (RR acc cenv.locals) s₄) E s₃) E s2 := by
  refine wpAny_newObj_type ?_
  have hfresh := I2.fresh
  have I3 : Inv X pins σ (upd H2 s2.heap.objs.size (.lst [])) { s2 with heap := s2.heap.push { cls := .type "list",data := .seq ([] : List Value).toArray } } :=
    I2.laid (t' := s2.toks) (fun b u q => Heap.get?_push_of_some _ q) (Nat.le_refl _) ⟨Nat.zero_le _,[],0,.nil,Heap.get?_push_size _ rfl⟩
  generalize hs3 : ({ s2 with heap := s2.heap.push { cls := .type "list",data := .seq ([] : List Value).toArray } } : Shared) = s3 at I3 ⊢
  have hp3 : s2.heap.objs.size < s3.heap.objs.size := by rw [← hs3]; exact Nat.lt_of_lt_of_le (Nat.lt_succ_self _) (Nat.le_of_eq (Heap.size_push _ _).symm)
  have k23 : ∀ b o,s2.heap.get? b = some o → s3.heap.get? b = some o := fun b o e => by rw [← hs3]; exact Heap.get?_push_of_some _ e
  have fpo : ∀ b ∈ fp,b < s2.heap.objs.size := fun b hb => by
    obtain ⟨o,e,_⟩ := T.obj 0 _ st b hb
    exact Heap.lt_size e
  have f3 : ∀ b ∈ fp,FpOk X pins (upd H2 s2.heap.objs.size (.lst [])) b := fun b hb => ⟨by rw [upd_ne (Nat.ne_of_lt (fpo b hb))]; exact (f2 b hb).1,(f2 b hb).2⟩
  refine wpAny_newFunctionEnv C.cell (by intro y hy; simp at hy) (fun h1 hns1 hsb1 => ?_) C.kind
  have kp : ∀ b o,s3.heap.get? b = some o → h1.get? b = some o := fun b o e => (hsb1.2 b (Nat.ne_of_lt (Heap.lt_size e))).trans (Heap.get?_push_of_some _ e)
  have I4 := blk_inv (s4 := { s3 with heap := h1,toks := s3.toks + ([] : List (Str × Value)).length }) C I3 f3 (fun b hb => Nat.lt_trans (fpo b hb) hp3) ⟨rfl,rfl⟩ hns1 kp
  have st4 : tn 0 h1 := T.keep 0 _ _ st fun b _ o e => kp b o (k23 b o e)
  obtain ⟨W,⟨m0,w0⟩,step⟩ := rd _ hfresh
  have loop : codeAny (model X.prog X.w) X.A (.compLoop (.ListComp elt [⟨.Name x px,iter,[],0⟩] scope pos) 0 (.ref it) (.ref s2.heap.objs.size) (compEnvC scope cl s3.heap.objs.size X.env)) (RR (.ref s2.heap.objs.size) s3.heap.objs.size)
      { s3 with heap := h1,toks := s3.toks + ([] : List (Str × Value)).length } := by
    refine codeAny_compLoop_list (fun n s => ∃ i acc σv H',Inv (X.blk (x :: fv.map (·.1)) scope cl fp s3 (upd H2 s2.heap.objs.size (.lst []))) [] (σv :: fvs fv σ) H' s ∧ tn i s.heap ∧ (∀ b ∈ fp,H' b = none) ∧ W i n acc H') ?_ m0 ⟨0,[],none,_,I4,st4,fun b hb => (f3 b hb).1,w0⟩
    rintro n s ⟨i,acc,σv,H',I',st',fr',w'⟩
    obtain ⟨hp,hlen,alt⟩ := step i n acc H' w'
    have fpk : ∀ {H5 : Hp},(∀ b ∈ fp,H5 b = none) → ∀ b ∈ fp,FpOk (X.blk (x :: fv.map (·.1)) scope cl fp s3 (upd H2 s2.heap.objs.size (.lst []))) [] H5 b := fun h5 b hb =>
      ⟨h5 b hb,(I'.ok.exf b hb).1,I'.ok.exfs b hb,.inl hb,fun y c e => (I'.ok.exf b hb).2 y c e,fun q hq => by simp at hq⟩
    rcases alt with ⟨stop,qf⟩ | ⟨go,turn⟩
    · refine wpAny_mono (T.done (X.blk (x :: fv.map (·.1)) scope cl fp s3 (upd H2 s2.heap.objs.size (.lst []))) rfl rfl rfl hcalm i [] s _ H' (fun _ _ => False) I' (fpk fr') st' stop) (fun r s5 ⟨hr,I5⟩ => ?_) fun _ _ z => False.elim z
      subst hr
      refine hRR _ _ H' s5 (let ⟨m,hn,_⟩ := I5.loc; ⟨m,hn⟩) (Nat.ne_of_gt I3.lt) I5.free I3.sz (fun y c e => ?_) (fun q hq => ?_) ?_ qf
      · obtain ⟨v,z⟩ := I3.cell y c e
        exact Nat.ne_of_lt z.lt
      · exact Nat.ne_of_lt (Heap.lt_size (I3.pin q hq).1)
      · exact I3.call' (s' := s5) (ch := fp) I5.os I5.base I5.hok I5.bare fun b hb => ⟨(f2 b hb).2.2.2.1,(f2 b hb).2.1,(f2 b hb).2.2.2.2.1,(f2 b hb).2.2.2.2.2⟩
    · refine wpAny_mono (T.item (X.blk (x :: fv.map (·.1)) scope cl fp s3 (upd H2 s2.heap.objs.size (.lst []))) rfl rfl rfl hcalm i [] s _ H' (fun _ _ => False) I' (fpk fr') st' go) (fun r s5 ⟨u,hr,h5⟩ => ?_) fun _ _ z => False.elim z
      subst hr
      have e5 : assign (.Name x px) (compEnvC scope cl s3.heap.objs.size X.env) u = (letOwnedTupleGo (.Name x px) (.ref it) u >>= fun _ => assign (.Name x px) (compEnvC scope cl s3.heap.objs.size X.env) u) := by
        rw [show letOwnedTupleGo (.Name x px) (.ref it) u = pure () from rfl]
        rfl
      show wpAny _ _ (assign (.Name x px) (compEnvC scope cl s3.heap.objs.size X.env) u) _ _ _
      rw [e5]
      refine wpAny_bind (wpAny_mono h5 (fun _ s6 ⟨y,H6,I6,r6,y6,st6,fr6⟩ => ?_) fun _ _ z => False.elim z)
      have I6' := I6.pinned (fpk fr6) (T.obj _ _ st6)
      have lx : (relabel scope X.env).names.lookup x = some .local := lookup_relabel_local C.own
      refine wpAny_mono (pg_name (X := X.blk (x :: fv.map (·.1)) scope cl fp s3 (upd H2 s2.heap.objs.size (.lst []))) (i := 0) C.nd rfl (.inl lx) (.inr lx) _ s6 _ H6 y u (fun σ7 H7 => σ7 = some y :: fvs fv σ ∧ H7 = H6) I6' r6 ⟨rfl,rfl⟩) (fun _ s7 ⟨σ7,H7,I7,e7,e7'⟩ => ?_) fun _ _ z => False.elim z
      subst e7 e7'
      refine wpAny_mono (he s3 _ _ s7 _ _ _ I7 (turn y _ y6)) (fun v8 s8 ⟨y8,H8,I8,r8,q8,m',hm',w8⟩ => ?_) fun _ _ z => False.elim z
      refine wpAny_mono (mt_append (X := X.blk (x :: fv.map (·.1)) scope cl fp s3 (upd H2 s2.heap.objs.size (.lst []))) _ s8 _ H8 (.ref s2.heap.objs.size) [y8] (.ref s2.heap.objs.size) [v8] (fun _ H9 => H9 = upd H8 s2.heap.objs.size (.lst (acc ++ [y8]))) I8 rfl (.cons r8 .nil) ⟨_,acc,y8,rfl,rfl,q8,hlen,rfl⟩) (fun _ s9 ⟨_,H9,I9,_,e9⟩ => ?_) fun _ _ z => False.elim z
      subst e9
      refine ⟨m',hm',i + 1,acc ++ [y8],some y,_,I9.unpinned,T.keep _ _ _ st6 fun b hb o e => (I9.pin (b,o) (List.mem_append_right _ (List.mem_append_right _ (mem_pinsAt hb e)))).1,fun b hb => ?_,w8⟩
      obtain ⟨o,e,d⟩ := T.obj _ _ st6 b hb
      exact (I9.pin (b,o) (List.mem_append_right _ (List.mem_append_right _ (mem_pinsAt hb e)))).2.1
  exact codeAny_compStart_list loop (T.self _ 0 _ _ _ st4 loop)
theorem pe_comp {wi : TI} (hcalm : X.calm = true) (C : CompN X scope cl x fv) (hi : PI X (.Name x px) iter wi) (he : ∀ (fp : List Addr) (s₀ : Shared) (H₀ : Hp),PE (X.blk (x :: fv.map (·.1)) scope cl fp s₀ H₀) elt te)
    (hs : ∀ v,foldedSetIterable iter X.env v = pure v := by intro _; rfl) : PE X (.ListComp elt [⟨.Name x px,iter,[],0⟩] scope pos) (tComp wi fv te) := by
  intro pins s σ H Q I h
  rw [eval_ListComp]
  refine wpAny_comprehension_free (use := none) rfl hs C.clos C.kind C.names (wpAny_mono (hi pins s σ H _ I h) (fun v s1 h1 => wpAny_mono h1 (fun itv s2 h2 => ?_) fun _ _ z => z) fun _ _ z => z)
  obtain ⟨it,fp,tn,J,H2,rfl,I2,T,st2,f2,rd⟩ := h2
  refine blk_run (Qf := Q) hcalm C I2 T st2 f2 rd (he fp) fun p D H' s' ns nL nH n0 nC nP I8 q => ?_
  obtain ⟨m,hn⟩ := ns
  exact ⟨m,hn,fun h'' sb => ⟨.ref p,H',I8.turned (t' := s'.toks) (fun b o hb e => (sb.2 b hb).trans e) nH nL (.inr n0) nC nP,rfl,q⟩⟩
theorem ps_setComp {wi : TI} {y : Str} {j : Nat} {py spos : Pos} (hcalm : X.calm = true) (C : CompN X scope cl x fv) (hN : X.N.Nodup) (hj : X.N[j]? = some y) (hy : X.env.scope.names.lookup y = some .local) (hi : PI X (.Name x px) iter wi) (he : ∀ (fp : List Addr) (s₀ : Shared) (H₀ : Hp),PE (X.blk (x :: fv.map (·.1)) scope cl fp s₀ H₀) elt te)
    (hsw : swapsWith (.ListComp elt [⟨.Name x px,iter,[],0⟩] scope pos) (some (.Name y py)) spos.line X.env = pure true := by rfl)
    (hs : ∀ v,foldedSetIterable iter X.env v = pure v := by intro _; rfl) : PS X (.Assign [.Name y py] (.ListComp elt [⟨.Name x px,iter,[],0⟩] scope pos) spos) (tAsg (tComp wi fv te) (gName j)) := by
  intro pins s σ H D I h
  rw [exec_Assign_Name_used _ _ _ _ hsw]
  refine wpAny_bind (wpAny_standAt (wpAny_bind ?_))
  show wpAny _ _ (do let _ ← comprehension (.ListComp elt [⟨.Name x px,iter,[],0⟩] scope pos) scope X.env _ (newList []) false (eval iter X.env) (some (assign (.Name y py) X.env))) _ _ s
  refine wpAny_bind (wpAny_mono (wpAny_comprehension_free (use := some (assign (.Name y py) X.env)) (Q := fun _ s' => SP X pins D .next s') rfl hs C.clos C.kind C.names
    (wpAny_mono (hi pins s σ H _ I h) (fun v s1 h1 => wpAny_mono h1 (fun itv s2 h2 => ?_) fun _ _ z => z) fun _ _ z => z)) (fun _ s' hq => wpAny_pure (wpAny_pure hq)) fun _ _ z => z)
  obtain ⟨it,fp,tn,J,H2,rfl,I2,T,st2,f2,rd⟩ := h2
  refine blk_run (Qf := fun v H' => gName j v σ H' D.nx) hcalm C I2 T st2 f2 rd (he fp) fun p D' H' s' ns nL nH n0 nC nP I8 q => ?_
  obtain ⟨m,hn⟩ := ns
  show wpAny _ _ (assign (.Name y py) X.env (.ref p)) _ _ _
  refine wpAny_assign_Name (store_ok2 I8 hN hj (.inl hy) (v := .ref p) rfl (fun s9 I9 ⟨a,sb,ha⟩ => ?_) (.inr hy))
  have aD : D' ≠ a := by
    rintro rfl
    rcases ha with z | z
    · exact nL z
    · exact nC y _ z rfl
  exact ⟨m,hn.sameBut sb aD,fun h'' sb2 => ⟨_,H',I9.turned (t' := s9.toks) (fun b o hb e => (sb2.2 b hb).trans e) nH nL (.inr n0) nC nP,q⟩⟩
end
end L2
namespace L2
open PySem PySem.Spec PyProof.Rows
def setScope (s : Stmt) : Scope := match s with
  | .Assign _ (.ListComp _ _ sc _) _ => sc
  | _ => { kind := .function,names := [],isGenerator := false,isCoroutine := false }
end L2
namespace L2
open PySem PySem.Spec PyProof.Rows
theorem ix_tupK {X : Cx} {K : PySem.W.Frag} (h : X.K = K) : IxR X (rIxT K) := h ▸ ix_tup
end L2
namespace L2
open PySem PySem.Spec PyProof.Rows
theorem comp_list {K : PySem.W.Frag} {a : Addr} {xs : List V} {fv : List (Str × Nat)} {te : TE} {σ : St} {H1 : Hp} {Qp : Hp → Prop} {l : Addr} (Pv : Nat → List V → Hp → Prop) (h0 : Pv 0 [] (upd H1 l (.lst []))) (hp : ∀ i acc H2,i ≤ xs.length → Pv i acc H2 → SqL K H2 a xs ∧ H2 l = some (.lst acc) ∧ acc.length < sizeLine)
    (hs : ∀ i x acc H2 (Kc : VK),xs[i]? = some x → Pv i acc H2 → (∀ y H4,H4 l = some (.lst acc) → Pv (i + 1) (acc ++ [y]) (upd H4 l (.lst (acc ++ [y]))) → Kc y H4) → te (some x :: fvs fv σ) H2 Kc) (hd : ∀ acc H2,Pv xs.length acc H2 → Qp H2) :
    ∃ W : Nat → Nat → List V → Hp → Prop,(∃ m,W 0 m [] (upd H1 l (.lst []))) ∧ ∀ i m acc H2,W i m acc H2 →
      H2 l = some (.lst acc) ∧ acc.length < sizeLine ∧ (((Itl K a).stop i H2 ∧ Qp H2) ∨ ((Itl K a).go i H2 ∧ ∀ x H3,(Itl K a).yld i H2 x H3 → te (some x :: fvs fv σ) H3 fun y H4 => H4 l = some (.lst acc) ∧ ∃ m',m' < m ∧ W (i + 1) m' (acc ++ [y]) (upd H4 l (.lst (acc ++ [y]))))) := by
  refine ⟨fun i m acc H2 => m = xs.length - i ∧ i ≤ xs.length ∧ Pv i acc H2,⟨xs.length,by simp,Nat.zero_le _,h0⟩,?_⟩
  rintro i m acc H2 ⟨rfl,hi,p⟩
  obtain ⟨q1,q2,q3⟩ := hp i acc H2 hi p
  refine ⟨q2,q3,?_⟩
  by_cases hlt : i < xs.length
  · refine .inr ⟨⟨xs,xs[i],q1,List.getElem?_eq_getElem hlt⟩,fun x H3 y => ?_⟩
    obtain ⟨e1,e2⟩ := y
    subst e1
    exact hs i x acc _ _ (e2 xs q1) p fun y H4 z1 z2 => ⟨z1,xs.length - (i + 1),by omega,rfl,hlt,z2⟩
  · have e : i = xs.length := by omega
    subst e
    exact .inl ⟨⟨xs,q1,Nat.le_refl _⟩,hd acc H2 p⟩
end L2
namespace L2
open PySem PySem.Spec PyProof.Rows
theorem val_get {xs : List V} {us : List Value} {j : Nat} (r : Vals xs us) (h : j < us.length) : ∃ a,xs[j]? = some a ∧ RelV a us[j] := by
  have hl := r.length
  have hj : j < xs.length := by omega
  obtain ⟨u,e,q⟩ := r.get (i := j) (x := xs[j]) (List.getElem?_eq_getElem hj)
  rw [List.getElem?_eq_getElem h] at e
  cases e
  exact ⟨xs[j],List.getElem?_eq_getElem hj,q⟩
section
variable {X : Cx} {pins : List (Addr × Obj)} {σ : St} {H : Hp} {s : Shared}
end
end L2
namespace L2
open PySem
theorem Room.units10 {k : Nat} {A : Around} (r : Room k A) : A.units + 10 < cLine := by have := r.un; omega
end L2
namespace L2
open PySem PySem.Spec PyProof.Rows
end L2
namespace Sp3
open PySem PySem.Spec L2 Mth Sp1 Sp2
end Sp3
namespace Sp3
open PySem PySem.Spec L2 Mth Sp1 Sp2
theorem Thing.mono {H H' : Hp} {x : V} (h : Thing H x) (s : Same H H') : Thing H' x := by
  obtain ⟨⟨t,k⟩,pt⟩ := h
  refine ⟨⟨t,k.mono s⟩,fun p xs e1 e2 y hy => ?_⟩
  subst e1
  have e3 : H p = some (.tup xs) := by
    cases k with
    | lst e => rw [s _ _ e] at e2; cases e2
    | tup e => rw [s _ _ e] at e2; cases e2; exact e
    | dict e => rw [s _ _ e] at e2; cases e2
  obtain ⟨t',k'⟩ := pt p xs rfl e3 y hy
  exact ⟨t',k'.mono s⟩
abbrev Crn := List (Addr × Int × Int)
end Sp3
namespace PySem
open Sem (wp)
section
variable {prog : Program} {w : World} {A : Around} {E : Value → Shared → Prop} {h : Heap} {g : Array GenState} {d : Drawn} {t : Nat} {os : OsState} {a : Addr} {o : Obj}
  {nm q : Str} {C N : Addr} {bs bm : List Value} {hdct : Bool} {sn : List Str} {sub : List Value} {ab : Bool} {col : Option Bool} {dd : Option Addr} {k0 k1 k2 k3 k5 : Option Value} {newId : String}
end
end PySem
namespace L2
open PySem PySem.Spec PyProof.Rows
section
variable {X : Cx}
end
section
variable {X : Cx} {pins : List (Addr × Obj)} {σ : St} {H : Hp} {s : Shared}
theorem Inv.track {a : Addr} {o : HO} (I : Inv X pins σ H s) (hn : H a = none) (h0 : X.s₀.heap.get? a = none) (hl : a ≠ X.env.locals) (hc : ∀ x c,X.env.cells.lookup x = some c → c ≠ a) (hp : ∀ p ∈ X.pn ++ pins,p.1 ≠ a)
    (ho : ObjOk X.prog X.w (upd H a o) s.heap a o) : Inv X pins σ (upd H a o) s where
  ok := I.ok
  os := I.os
  bare := I.bare
  base := {
    keep := I.base.keep
    slot := I.base.slot
    free := fun b ob e n hx => by
      rw [upd_ne (fun z => by subst z; rw [h0] at e; cases e)]
      exact I.base.free b ob e n hx
    there := I.base.there
    tups := fun b xs q => by
      have z := I.base.tups b xs q
      rw [upd_ne (ne_of_none z hn)]
      exact z
    frzs := fun b ob u q => by
      have z := I.base.frzs b ob u q
      rw [upd_ne (ne_of_none z hn)]
      exact z
    tbls := fun b ps q => by
      obtain ⟨m,z⟩ := I.base.tbls b ps q
      exact ⟨m,by rw [upd_ne (ne_of_none z hn)]; exact z⟩ }
  loc := I.loc
  cell := I.cell
  free := by rw [upd_ne (Ne.symm hl)]; exact I.free
  freeC := fun x c e => by rw [upd_ne (hc x c e)]; exact I.freeC x c e
  pin := fun p m => by
    obtain ⟨p1,p2,p3⟩ := I.pin p m
    exact ⟨p1,by rw [upd_ne (hp p m)]; exact p2,p3⟩
  hok := fun b u q => by
    by_cases hb : b = a
    · subst hb
      rw [upd_same] at q
      cases q
      exact ho
    · rw [upd_ne hb] at q
      exact (I.hok b u q).stay (fun _ _ _ r => r) (fun c r => by rw [upd_ne (ne_of_none r hn)]; exact r) fun c xs r => by rw [upd_ne (ne_of_none r hn)]; exact r
  len := I.len
end
section
variable {X : Cx}
end
end L2
namespace Sp8
open PySem PySem.Spec L2 Mth Sp1 Sp2 Sp3
end Sp8
namespace L2
open PySem PySem.Spec PyProof.Rows
theorem SqT.mod {K : PySem.W.Frag} {H : Hp} {a : Addr} {oc : Value} {od : Option Addr} {its : Array Value} {n : Nat} {sl : Array (Option Value)} {xs : List V} (hk : K.lookup a = some ⟨oc,od,.seq its n,sl⟩) (hc : oc = .type "tuple") (hz : its.size ≤ 100) (r : Vals xs its.toList) : SqT K H a xs :=
  .inr ⟨_,its,n,hk,hc,rfl,Nat.le_of_lt (small1000 (by omega)),r⟩
end L2
namespace Sp24
open PySem PySem.Spec L2 Mth Sp1 Sp2 Sp3 Sp8
end Sp24
namespace L2
open PySem PySem.Spec PyProof.Rows
theorem bt_all : bootBuiltins "all" = some (.builtin "all") := by decide +kernel
theorem bl_at {bs : List Bool} {us : List Value} {i : Nat} {v : Value} (r : Vals (bs.map V.bl) us) (h : us[i]? = some v) : ∃ b,bs[i]? = some b ∧ v = .bool b := by
  have hl := r.length
  rw [List.length_map] at hl
  have hi : i < us.length := (List.getElem?_eq_some_iff.mp h).1
  have hj : i < bs.length := by omega
  obtain ⟨u,e,q⟩ := r.get (i := i) (x := .bl bs[i]) (by rw [List.getElem?_map,List.getElem?_eq_getElem hj]; rfl)
  rw [h] at e
  cases e
  exact ⟨bs[i],List.getElem?_eq_getElem hj,q⟩
theorem all_range (bs : List Bool) : ((List.range bs.length).all fun i => (bs[i]?).getD true) = bs.all id := by
  rw [Bool.eq_iff_iff]
  simp only [List.all_eq_true,List.mem_range,id]
  constructor
  · intro h b hb
    obtain ⟨i,hi,rfl⟩ := List.mem_iff_getElem.mp hb
    have z := h i hi
    rw [List.getElem?_eq_getElem hi] at z
    exact z
  · intro h i hi
    rw [List.getElem?_eq_getElem hi]
    exact h _ (List.getElem_mem hi)
theorem call_all {X : Cx} (hc : X.calm = true) : CallR X (.builtin "all") (fun xs H Q => ∃ (p : Addr) (bs : List Bool),xs = [.ref p] ∧ SqL X.K H p (bs.map V.bl) ∧ Q (.bl (bs.all id)) H) := by
  intro pins s σ H xs us Q I r h
  obtain ⟨p,bs,rfl,hq,q⟩ := h
  obtain ⟨u,rfl,rx⟩ := vals1 r
  cases rx
  obtain ⟨its,rv,pl,_⟩ := I.list hq
  have hl := pl.isList
  have lt : p < s.heap.objs.size := by
    obtain ⟨_,e,_⟩ := hl
    exact Heap.lt_size e
  refine call_all_walk (wpAny_pyIter_list hl ?_)
  refine ⟨s.heap.objs.size,[s.heap.objs.size,p],[s.heap.objs.size],its.toArray.size,_,_,fun i => (bs[i]?).getD true,rfl,Walks.list (A := X.A.in1) (I.ok.hd hc) _ p (Nat.ne_of_lt lt) its.toArray,?_⟩
  refine ⟨⟨⟨_,Heap.get?_push_size _ rfl,rfl,rfl⟩,hl.push _⟩,fun i v s' Q' E' hP hQ => ?_,fun h' tk hk => ?_⟩
  · obtain ⟨b,e,rfl⟩ := bl_at rv (by simpa using hP)
    simp only [e,Option.getD_some] at hQ
    exact wpAny_truthy_bool hQ
  · have el : its.toArray.size = bs.length := by
      have := rv.length
      rw [List.length_map] at this
      rw [List.size_toArray]
      omega
    rw [el,all_range]
    refine ⟨.bl _,H,I.kept (t' := tk) fun b o e => ?_,rfl,q⟩
    exact hk b o (fun hm => by rw [List.mem_singleton.mp hm] at e; exact Nat.lt_irrefl _ (Heap.lt_size e)) (Heap.get?_push_of_some _ e)
end L2
namespace Sp7
open PySem PySem.Spec L2 Mth Sp1 Sp2 Sp3
def larg : Int := 999999999999
def Sm (x : Int) : Prop := -larg ≤ x ∧ x ≤ larg
structure LineM (H : Hp) (l : Addr) (qs : Crn) : Prop where
  lst : H l = some (.lst (qs.map fun q => V.ref q.1))
  crn : ∀ q ∈ qs,H q.1 = some (.tup [.int q.2.1,.int q.2.2]) ∧ Sm q.2.1 ∧ Sm q.2.2
theorem LineM.mono {H H' : Hp} {l : Addr} {qs : Crn} (L : LineM H l qs) (s : Same H H') : LineM H' l qs := ⟨s _ _ L.lst,fun q h => ⟨s _ _ (L.crn q h).1,(L.crn q h).2⟩⟩
def retScope (s : Stmt) : Scope := match s with
  | .Return (some (.Call _ [.ListComp _ _ sc _] _ _)) _ => sc
  | .Return (some (.ListComp _ _ sc _)) _ => sc
  | _ => { kind := .function,names := [],isGenerator := false,isCoroutine := false }
end Sp7
namespace L2
open PySem PySem.Spec PyProof.Rows
theorem bits_add2 {i j : Int} {m n : Nat} (hi : bits i ≤ m) (hj : bits j ≤ n) : bits (i + j) ≤ max m n + 1 := bits_add (bits_le hi (Nat.le_max_left _ _)) (bits_le hj (Nat.le_max_right _ _))
theorem dec_t {p : Prop} [Decidable p] (h : decide p = true) : p := of_decide_eq_true h
theorem dec_f {p : Prop} [Decidable p] (h : decide p = false) : ¬ p := of_decide_eq_false h
theorem CM.of {i j : Int} {m n : Nat} (hi : bits i ≤ m) (hj : bits j ≤ n) (h : m ≤ 1000000 ∧ n ≤ 1000000) : CM i j := CM.b hi hj (by have : (2:Nat) ^ 20 = 1048576 := by decide
                                                                                                                                     omega) (by have : (2:Nat) ^ 20 = 1048576 := by decide
                                                                                                                                                omega)
theorem bits_of_le {i : Int} {m n : Nat} (h : bits i ≤ m) (hm : m ≤ n) : bits i ≤ n := Nat.le_trans h hm
end L2
namespace L2
open PySem PySem.Spec PyProof.Rows
def SameT (H H' : Hp) : Prop := ∀ b xs,H b = some (.tup xs) → H' b = some (.tup xs)
theorem Same.t {H H' : Hp} (s : Same H H') : SameT H H' := fun b xs e => s b _ e
theorem SameT.trans {H H1 H2 : Hp} (a : SameT H H1) (b : SameT H1 H2) : SameT H H2 := fun c xs e => b c xs (a c xs e)
theorem SameT.upd {H : Hp} {l : Addr} {xs ys : List V} (hl : H l = some (.lst xs)) : SameT H (upd H l (.lst ys)) := fun b zs e => by
  rw [upd_ne (ne_of e hl (by intro z; cases z))]
  exact e
theorem Same.upd {H0 H : Hp} {l : Addr} {o : HO} (s : Same H0 H) (hl : H0 l = none) : Same H0 (upd H l o) := fun b u e => by
  rw [upd_ne (ne_of_none e hl)]
  exact s b u e
def CompAt (J : It) (fv : List (Str × Nat)) (te : TE) (σ : St) (H1 : Hp) (Q : VK) : Prop := ∀ p,H1 p = none → ∃ W : Nat → Nat → List V → Hp → Prop,(∃ m,W 0 m [] (upd H1 p (.lst []))) ∧ ∀ i m acc H2,W i m acc H2 →
  H2 p = some (.lst acc) ∧ acc.length < sizeLine ∧ ((J.stop i H2 ∧ Q (.ref p) H2) ∨ (J.go i H2 ∧ ∀ x H3,J.yld i H2 x H3 → te (some x :: fvs fv σ) H3 fun y H4 => H4 p = some (.lst acc) ∧ ∃ m',m' < m ∧ W (i + 1) m' (acc ++ [y]) (upd H4 p (.lst (acc ++ [y])))))
def tCompA (wi : TI) (fv : List (Str × Nat)) (te : TE) : TE := fun σ H Q => wi σ H fun J H1 => CompAt J fv te σ H1 Q
section
variable {X : Cx} {scope : Scope} {cl : List (Str × Addr)} {x : Str} {fv : List (Str × Nat)} {elt iter : Expr} {px pos : Pos} {te : TE}
theorem pe_compA {wi : TI} (hcalm : X.calm = true) (C : CompN X scope cl x fv) (hi : PI X (.Name x px) iter wi) (he : ∀ (fp : List Addr) (s₀ : Shared) (H₀ : Hp),PE (X.blk (x :: fv.map (·.1)) scope cl fp s₀ H₀) elt te)
    (hs : ∀ v,foldedSetIterable iter X.env v = pure v := by intro _; rfl) : PE X (.ListComp elt [⟨.Name x px,iter,[],0⟩] scope pos) (tCompA wi fv te) := pe_comp hcalm C hi he hs
theorem ps_setCompA {wi : TI} {y : Str} {j : Nat} {py spos : Pos} (hcalm : X.calm = true) (C : CompN X scope cl x fv) (hN : X.N.Nodup) (hj : X.N[j]? = some y) (hy : X.env.scope.names.lookup y = some .local) (hi : PI X (.Name x px) iter wi) (he : ∀ (fp : List Addr) (s₀ : Shared) (H₀ : Hp),PE (X.blk (x :: fv.map (·.1)) scope cl fp s₀ H₀) elt te)
    (hsw : swapsWith (.ListComp elt [⟨.Name x px,iter,[],0⟩] scope pos) (some (.Name y py)) spos.line X.env = pure true := by rfl)
    (hs : ∀ v,foldedSetIterable iter X.env v = pure v := by intro _; rfl) : PS X (.Assign [.Name y py] (.ListComp elt [⟨.Name x px,iter,[],0⟩] scope pos) spos) (tAsg (tCompA wi fv te) (gName j)) := ps_setComp hcalm C hN hj hy hi he hsw hs
end
theorem comp_R {K : PySem.W.Frag} {a : Addr} {xs : List V} {fv : List (Str × Nat)} {te : TE} {σ : St} {H1 : Hp} {Q : VK} (hL : SqL K H1 a xs) (hlen : xs.length < 1000) (R : Nat → V → Hp → Prop) (hR : ∀ i v H H',SameT H H' → R i v H → R i v H')
    (hs : ∀ i x H2 (Kc : VK),xs[i]? = some x → Same H1 H2 → (∀ y H4,Same H2 H4 → R i y H4 → Kc y H4) → te (some x :: fvs fv σ) H2 Kc)
    (hd : ∀ l ys H',H1 l = none → Same H1 H' → H' l = some (.lst ys) → ys.length = xs.length → (∀ i y,ys[i]? = some y → R i y H') → Q (.ref l) H') :
    CompAt (Itl K a) fv te σ H1 Q := by
  intro l hl
  refine comp_list (K := K) (a := a) (xs := xs) (l := l) (fv := fv) (Qp := fun H2 => Q (.ref l) H2) (fun i acc H2 => acc.length = i ∧ Same H1 H2 ∧ H2 l = some (.lst acc) ∧ ∀ j y,acc[j]? = some y → R j y H2)
    ⟨rfl,Same.new hl,upd_same,fun j y h => by simp at h⟩ ?_ ?_ ?_
  · rintro i acc H2 hi ⟨e1,sm,e3,_⟩
    exact ⟨sm.seq hL,e3,small1000 (by omega)⟩
  · rintro i x acc H2 Kc hx ⟨e1,sm,e3,hr⟩ kk
    refine hs i x H2 Kc hx sm fun y H4 s4 ry => kk y H4 (s4 _ _ e3) ⟨by simp [e1],(sm.trans s4).upd hl,upd_same,fun j z hz => ?_⟩
    have t4 := SameT.upd (ys := acc ++ [y]) (s4 _ _ e3)
    rcases Nat.lt_trichotomy j acc.length with h | h | h
    · rw [List.getElem?_append_left h] at hz
      exact hR _ _ _ _ (s4.t.trans t4) (hr j z hz)
    · subst h
      rw [List.getElem?_append_right (Nat.le_refl _),Nat.sub_self] at hz
      cases hz
      rw [e1]
      exact hR _ _ _ _ t4 ry
    · rw [List.getElem?_eq_none (by simp; omega)] at hz
      cases hz
  · rintro acc H2 ⟨e1,sm,e3,hr⟩
    exact hd l acc H2 hl sm e3 e1 hr
theorem nice_tuple : Nice "tuple" := .inr (.inr (.inl rfl))
theorem nice_list : Nice "list" := .inr (.inr (.inr (.inl rfl)))
theorem nice_str : Nice "str" := .inr (.inr (.inr (.inr rfl)))
end L2
namespace L2
open PySem PySem.Spec PyProof.Rows
section
variable {X : Cx} {pos : Pos} {es : List Expr} {ta : TA}
inductive newO (f : List V → HO) (xs : List V) (H1 : Hp) (Q : VK) : Prop
  | mk (z : xs.length ≤ sizeLine) (q : ∀ p H2,Same H1 H2 → H2 p = some (f xs) → H1 p = none → Q (.ref p) H2) : newO f xs H1 Q
def tTupA (t : TA) : TE := fun σ H Q => t σ H fun xs H1 => newO .tup xs H1 Q
def tLstA (t : TA) : TE := fun σ H Q => t σ H fun xs H1 => newO .lst xs H1 Q
theorem pe_tupA {x1} (h : PA X es ta) : PE X (.Tuple es x1 pos) (tTupA ta) := by
  intro pins s σ H Q I hq
  refine wpAny_Tuple_spliced (thn (h pos pins s σ H _ I hq) fun us s1 ⟨xs,H1,I1,r,z,q⟩ => ⟨by rw [← r.length]; exact z,?_⟩)
  have hf : H1 s1.heap.objs.size = none := I1.hok.fresh (Nat.le_refl _)
  refine ⟨.ref s1.heap.objs.size,upd H1 s1.heap.objs.size (.tup xs),I1.laid (t' := s1.toks) (fun b u e => Heap.get?_push_of_some _ e) (Nat.le_refl _) ?_,rfl,q _ _ (Same.new hf) upd_same hf⟩
  exact ⟨z,us,r,⟨_,Heap.get?_push_size _ rfl,rfl,_,rfl⟩⟩
theorem pe_lstA (h : PA X es ta) : PE X (.List es pos) (tLstA ta) := by
  intro pins s σ H Q I hq
  refine wpAny_List_spliced (thn (h pos pins s σ H _ I hq) fun us s1 ⟨xs,H1,I1,r,z,q⟩ => ⟨by rw [← r.length]; exact z,?_⟩)
  have hf : H1 s1.heap.objs.size = none := I1.hok.fresh (Nat.le_refl _)
  refine ⟨.ref s1.heap.objs.size,upd H1 s1.heap.objs.size (.lst xs),I1.laid (t' := s1.toks) (fun b u e => Heap.get?_push_of_some _ e) (Nat.le_refl _) ?_,rfl,q _ _ (Same.new hf) upd_same hf⟩
  exact ⟨z,us,0,r,Heap.get?_push_size _ rfl⟩
inductive rSlLA (K : PySem.W.Frag) (x : V) (lo : Option Int) (hi : Option Int) (H : Hp) (Q : VK) : Prop
  | mk : ∀ a xs,(x = .ref a) → (SqL K H a xs) → (∀ p H2,Same H H2 → H2 p = some (.lst (cutV xs lo hi)) → H p = none → Q (.ref p) H2) → rSlLA K x lo hi H Q
theorem sl_listA : SlR X (rSlLA X.K) := fun pins s σ H x v vl vu lo hi sl Q I rx hs pl pu ⟨a,xs,e,hx,q⟩ =>
  sl_list pins s σ H x v vl vu lo hi sl Q I rx hs pl pu ⟨a,xs,e,hx,fun p hp => q p _ (Same.new hp) upd_same hp⟩
inductive rCatA (x : V) (y : V) (H : Hp) (Q : VK) : Prop
  | mk : ∀ l b xs zs,(x = .ref l) → (y = .ref b) → (H l = some (.lst xs)) → (H b = some (.lst zs)) → (xs.length + zs.length ≤ sizeLine) → (∀ p H2,Same H H2 → H2 p = some (.lst (xs ++ zs)) → H p = none → Q (.ref p) H2) → rCatA x y H Q
theorem op_catA : OpR X (binaryOp .Add) rCatA := fun pins s σ H x y v u Q I rx ry ⟨l,b,xs,zs,e1,e2,h1,h2,hz,q⟩ =>
  op_cat pins s σ H x y v u Q I rx ry ⟨l,b,xs,zs,e1,e2,h1,h2,hz,fun p hp => q p _ (Same.new hp) upd_same hp⟩
inductive rRepA (x : V) (y : V) (H : Hp) (Q : VK) : Prop
  | mk : ∀ l k xs,(x = .ref l) → (y = .int k) → (H l = some (.lst xs)) → (-(2 ^ 63) ≤ k) → (k < 2 ^ 63) → (xs.length * k.toNat ≤ sizeLine) → (∀ p H2,Same H H2 → H2 p = some (.lst (List.replicate k.toNat xs).flatten) → H p = none → Q (.ref p) H2) → rRepA x y H Q
theorem op_repA : OpR X (binaryOp .Mult) rRepA := fun pins s σ H x y v u Q I rx ry ⟨l,k,xs,e1,e2,h1,h2,h3,hz,q⟩ =>
  op_rep pins s σ H x y v u Q I rx ry ⟨l,k,xs,e1,e2,h1,h2,h3,hz,fun p hp => q p _ (Same.new hp) upd_same hp⟩
structure Upd (H H' : Hp) (l : Addr) (xs ys : List V) : Prop where
  was : H l = some (.lst xs)
  now : H' l = some (.lst ys)
  oth : ∀ b,b ≠ l → H' b = H b
theorem Upd.mk' {H : Hp} {l : Addr} {xs ys : List V} (h : H l = some (.lst xs)) : Upd H (L2.upd H l (.lst ys)) l xs ys := ⟨h,upd_same,fun _ n => upd_ne n⟩
theorem Upd.t {H H' : Hp} {l : Addr} {xs ys : List V} (u : Upd H H' l xs ys) : SameT H H' := fun b zs e => by
  rw [u.oth b (ne_of e u.was (by intro z; cases z))]
  exact e
theorem Upd.same {H0 H H' : Hp} {l : Addr} {xs ys : List V} (u : Upd H H' l xs ys) (s : Same H0 H) (h : H0 l = none) : Same H0 H' := fun b o e => by
  rw [u.oth b (ne_of_none e h)]
  exact s b o e
theorem Upd.at {H H' : Hp} {l b : Addr} {xs ys : List V} {o : HO} (u : Upd H H' l xs ys) (n : b ≠ l) (e : H b = some o) : H' b = some o := by
  rw [u.oth b n]
  exact e
inductive rAppendA (x : V) (vs : List V) (H : Hp) (Q : VK) : Prop
  | mk : ∀ l xs y,(x = .ref l) → (vs = [y]) → (H l = some (.lst xs)) → (xs.length < sizeLine) → (∀ H',Upd H H' l xs (xs ++ [y]) → Q .non H') → rAppendA x vs H Q
theorem mt_appendA : MtM X "list.append" rAppendA := fun pins s σ H x xs v us Q I rx rs ⟨l,ys,y,e1,e2,h,hz,q⟩ =>
  mt_append pins s σ H x xs v us Q I rx rs ⟨l,ys,y,e1,e2,h,hz,q _ (.mk' h)⟩
inductive rSetLA (o : V) (i : V) (v : V) (H : Hp) (Q : (Hp → Prop)) : Prop
  | mk : ∀ p xs k j,(o = .ref p) → (i = .int k) → (H p = some (.lst xs)) → (ixN xs.length k = some j) → (∀ H',Upd H H' p xs (xs.set j v) → Q H') → rSetLA o i v H Q
theorem set_listA : PSet X rSetLA := fun pins s σ H o i v uo ui uv Q I ro ri rv ⟨p,xs,k,j,e1,e2,h,hj,q⟩ =>
  set_list pins s σ H o i v uo ui uv Q I ro ri rv ⟨p,xs,k,j,e1,e2,h,hj,q _ (.mk' h)⟩
end
end L2
namespace L2
open PySem PySem.Spec PyProof.Rows
theorem menu {K : PySem.W.Frag} {H : Hp} {l : Addr} {xs : List V} {i : Int} {Q : VK} (e : H l = some (.lst xs)) (h0 : 0 ≤ i) (h1 : i < (xs.length : Int)) (h : ∀ v ∈ xs,Q v H) : rIxL K (.ref l) (.int i) H Q := by
  obtain ⟨v,hv,mv⟩ := Sp1.atI_mem h0 h1
  exact ⟨l,xs,i,v,rfl,rfl,SqL.of e,hv,h v mv⟩
theorem len3 {α : Type} {xs : List α} (h : xs.length = 3) : ∃ a b c,xs = [a,b,c] := match xs,h with | [a,b,c],_ => ⟨a,b,c,rfl⟩
theorem len2 {α : Type} {xs : List α} (h : xs.length = 2) : ∃ a b,xs = [a,b] := match xs,h with | [a,b],_ => ⟨a,b,rfl⟩
theorem len4 {α : Type} {xs : List α} (h : xs.length = 4) : ∃ a b c d,xs = [a,b,c,d] := match xs,h with | [a,b,c,d],_ => ⟨a,b,c,d,rfl⟩
theorem len5 {α : Type} {xs : List α} (h : xs.length = 5) : ∃ a b c d e,xs = [a,b,c,d,e] := match xs,h with | [a,b,c,d,e],_ => ⟨a,b,c,d,e,rfl⟩
theorem len6 {α : Type} {xs : List α} (h : xs.length = 6) : ∃ a b c d e f,xs = [a,b,c,d,e,f] := match xs,h with | [a,b,c,d,e,f],_ => ⟨a,b,c,d,e,f,rfl⟩
end L2
namespace L2
open PySem PySem.Spec PyProof.Rows
section
variable {X : Cx} {pins : List (Addr × Obj)} {σ : St} {H : Hp} {s : Shared}
theorem Inv.turnedL {h' : Heap} {t' : Nat} {ch : List Addr} (I : Inv X pins σ H s) (k : ∀ b o,b ∉ ch → s.heap.get? b = some o → h'.get? b = some o) (hf : ∀ b ∈ ch,FpOk X pins H b) : Inv X pins σ H { s with heap := h',toks := t' } := by
  have nit : ∀ b u,H b = some u → b ∉ ch := fun b u e z => by
    have n := (hf b z).1
    rw [n] at e
    cases e
  refine I.step (g' := s.gens) (d' := s.drawn) (ch := ch) (fun b hb => ?_) (fun b o _ _ hc e _ => k b o hc e) (fun b o _ _ hc e _ => ⟨o.slots,k b o hc e⟩) (fun _ _ _ _ n => n)
    (fun b o hc e => ⟨o,k b o hc e⟩) (fun _ _ e => e) (fun _ _ _ e => e) (fun b ps e => ⟨#[],by rw [e]; simp⟩) (fun m hm => ?_) (fun b u e => ?_) I.bare
  · obtain ⟨f0,f1,f2,f3,f4,f5⟩ := hf b hb
    exact ⟨f3,f1,f4,f5⟩
  · obtain ⟨o,es,ep,ho,r⟩ := hm
    exact ⟨o,es,ep,k _ o (fun z => (hf _ z).2.1 rfl) ho,r⟩
  · refine (I.hok b u e).stay (fun c v hc q => k c v ?_ q) (fun _ q => q) fun _ _ q => q
    rcases hc with z | z
    · rw [z]; exact nit b u e
    · exact nit c _ z
theorem turn_item {E : Value → Shared → Prop} {elts : List Expr} {kt : Nat} {pos : Pos} {i n : Nat} {z : Addr} {fpw wr : List Addr} {Pt : Nat → Array Value → Prop} {Stt : Nat → Heap → Prop} {Mid : Nat → Addr → Heap → Prop} {R : Value → Shared → Prop}
    (W : WalksT X.prog X.w X.A z fpw wr n Pt Stt Mid) (I : Inv X pins σ H s) (hwr : ∀ b ∈ wr,FpOk X pins H b) (hi : i < n) (st : Stt i s.heap)
    (k : ∀ T vals s2,Pt i vals → s.heap.objs.size ≤ T → s2.heap.IsTuple T vals → Stt (i + 1) s2.heap → Inv X pins σ H s2 → (∀ b o,b ∉ wr → s.heap.get? b = some o → s2.heap.get? b = some o) → R (.ref T) s2) :
    wpAny (model X.prog X.w) X.A (pyNext (.ref z)) (fun r s1 => ∃ u,r = some u ∧ wpAny (model X.prog X.w) X.A (letOwnedTupleGo (.Tuple elts kt pos) (.ref z) u) (fun _ s2 => R u s2) E s1) E s := by
  refine W.item i s _ E hi st fun T vals h' tk hp hT tup mid kk => ⟨.ref T,rfl,?_⟩
  refine W.go elts kt pos i T _ _ E mid fun h2 st2 k2 => ?_
  have kall : ∀ b o,b ∉ wr → s.heap.get? b = some o → h2.get? b = some o := fun b o hb e => k2 b o hb (kk b o hb e)
  obtain ⟨o,eo,ro⟩ := tup
  exact k T vals _ hp hT ⟨o,k2 T o (W.apart i T _ mid) eo,ro⟩ st2 (I.turnedL (t' := tk) kall hwr) kall
theorem track_tup {T : Addr} {s2 : Shared} {xs : List V} {us : List Value} (I : Inv X pins σ H s) (J : Inv X pins σ H s2) (hT : s.heap.objs.size ≤ T) (ht : s2.heap.IsTuple T us.toArray) (r : Vals xs us) (hz : xs.length ≤ sizeLine) : Inv X pins σ (upd H T (.tup xs)) s2 ∧ H T = none := by
  have hn : H T = none := I.hok.fresh hT
  obtain ⟨f0,f1,f2,f3,f4,f5⟩ := I.fpOk hT hn
  refine ⟨J.track hn ?_ f1 f4 f5 ⟨hz,us,r,ht⟩,hn⟩
  cases e : X.s₀.heap.get? T with
  | none => rfl
  | some o =>
    have h1 := Heap.lt_size e
    have h2 := I.sz
    exact absurd (Nat.lt_of_lt_of_le h1 (Nat.le_trans h2 hT)) (Nat.lt_irrefl _)
end
def Itz (K : PySem.W.Frag) (l1 l2 : Addr) : It :=
  ⟨fun i H => ∃ xs ys x y,SqL K H l1 xs ∧ SqL K H l2 ys ∧ xs[i]? = some x ∧ ys[i]? = some y,
   fun i H v H' => ∃ p x y,v = .ref p ∧ H p = none ∧ H' = upd H p (.tup [x,y]) ∧ ∀ xs ys,SqL K H l1 xs → SqL K H l2 ys → xs[i]? = some x ∧ ys[i]? = some y,
   fun i H => ∃ xs ys,SqL K H l1 xs ∧ SqL K H l2 ys ∧ i = min xs.length ys.length⟩
def Ite (K : PySem.W.Frag) (l : Addr) : It :=
  ⟨fun i H => ∃ xs x,SqL K H l xs ∧ xs[i]? = some x,
   fun i H v H' => ∃ p x,v = .ref p ∧ H p = none ∧ H' = upd H p (.tup [.int (i : Int),x]) ∧ ∀ xs,SqL K H l xs → xs[i]? = some x,
   fun i H => ∃ xs,SqL K H l xs ∧ i = xs.length⟩
theorem turn_zip {P : Program} {w : World} {K : PySem.W.Frag} {elts : List Expr} {kt : Nat} {pos : Pos} (z TI TO i1 i2 l1 l2 : Addr) (D : ZipApart z TI TO i1 i2 l1 l2) :
    Turn P w K (.Tuple elts kt pos) (Itz K l1 l2) [z,TI,TO,i1,i2] z (fun i h => IsZip h z TI TO .none ∧ IsPair h TI (.ref i1) (.ref i2) ∧ (∃ a b,IsPair h TO a b) ∧ h.IsListIter i1 l1 i ∧ h.IsListIter i2 l2 i) where
  mem := by simp
  obj := fun i h st b hb => by
    obtain ⟨hz,hTI,⟨a,c,hTO⟩,⟨o1,e1,c1,d1⟩,⟨o2,e2,c2,d2⟩⟩ := st
    simp only [List.mem_cons,List.not_mem_nil,or_false] at hb
    rcases hb with rfl | rfl | rfl | rfl | rfl
    · exact ⟨_,hz,fun v y => by cases y⟩
    · exact ⟨_,hTI,fun v y => by cases y⟩
    · exact ⟨_,hTO,fun v y => by cases y⟩
    · exact ⟨o1,e1,fun v y => by rw [d1] at y; cases y⟩
    · exact ⟨o2,e2,fun v y => by rw [d2] at y; cases y⟩
  keep := fun i h h' st k => by
    obtain ⟨hz,hTI,⟨a,c,hTO⟩,h1,h2⟩ := st
    exact ⟨k z (by simp) _ hz,k TI (by simp) _ hTI,⟨a,c,k TO (by simp) _ hTO⟩,h1.at fun o e => k i1 (by simp) o e,h2.at fun o e => k i2 (by simp) o e⟩
  item := by
    intro X hP hw hK hc i pins s σ H E I hf st hg
    subst hP hw hK
    obtain ⟨xs,ys,x,y,q1,q2,hx,hy⟩ := hg
    obtain ⟨its,r1,p1,_⟩ := I.list q1
    obtain ⟨jts,r2,p2,_⟩ := I.list q2
    obtain ⟨u1,hu1,ru1⟩ := r1.get hx
    obtain ⟨u2,hu2,ru2⟩ := r2.get hy
    have W := WalksT.zip2 (prog := X.prog) (w := X.w) (I.ok.hd hc) z TI TO i1 i2 l1 l2 D its.toArray jts.toArray
    have hn : i < min its.toArray.size jts.toArray.size := by
      have g1 := (List.getElem?_eq_some_iff.mp hu1).1
      have g2 := (List.getElem?_eq_some_iff.mp hu2).1
      simp only [List.size_toArray]
      omega
    obtain ⟨hz,hTI,hTO,h1,h2⟩ := st
    refine turn_item W I (fun b hb => hf b (by simp at hb ⊢; rcases hb with h | h | h | h <;> simp [h])) hn ⟨hz,hTI,hTO,h1,h2,p1.isList,p2.isList⟩ fun T vals s2 hp hT tup st2 J2 kall => ?_
    obtain ⟨v1,v2,e1,e2,rfl⟩ := hp
    have e1' : its[i]? = some v1 := by simpa using e1
    have e2' : jts[i]? = some v2 := by simpa using e2
    rw [hu1] at e1'
    rw [hu2] at e2'
    cases e1'
    cases e2'
    obtain ⟨J3,nT⟩ := track_tup (xs := [x,y]) (us := [u1,u2]) I J2 hT tup (.cons ru1 (.cons ru2 .nil)) (Sp1.sz (by simp))
    obtain ⟨hz2,hTI2,hTO2,h12,h22,_,_⟩ := st2
    refine ⟨.ref T,upd H T (.tup [x,y]),J3,rfl,⟨T,x,y,rfl,nT,rfl,fun as bs qa qb => ?_⟩,⟨hz2,hTI2,hTO2,h12,h22⟩,fun b hb => ?_⟩
    · rw [I.list_inj qa q1,I.list_inj qb q2]
      exact ⟨hx,hy⟩
    · have hb' : ∃ o,s.heap.get? b = some o := by
        obtain ⟨a,c,hTO⟩ := hTO
        obtain ⟨o1,e1,_⟩ := h1
        obtain ⟨o2,e2,_⟩ := h2
        simp only [List.mem_cons,List.not_mem_nil,or_false] at hb
        rcases hb with rfl | rfl | rfl | rfl | rfl
        · exact ⟨_,hz⟩
        · exact ⟨_,hTI⟩
        · exact ⟨_,hTO⟩
        · exact ⟨_,e1⟩
        · exact ⟨_,e2⟩
      obtain ⟨o,eo⟩ := hb'
      rw [upd_ne (Nat.ne_of_lt (Nat.lt_of_lt_of_le (Heap.lt_size eo) hT))]
      exact (hf b hb).1
  done := by
    intro X hP hw hK hc i pins s σ H E I hf st hg
    subst hP hw hK
    obtain ⟨xs,ys,q1,q2,rfl⟩ := hg
    obtain ⟨its,r1,p1,_⟩ := I.list q1
    obtain ⟨jts,r2,p2,_⟩ := I.list q2
    have W := WalksT.zip2 (prog := X.prog) (w := X.w) (I.ok.hd hc) z TI TO i1 i2 l1 l2 D its.toArray jts.toArray
    obtain ⟨hz,hTI,hTO,h1,h2⟩ := st
    have el : min its.toArray.size jts.toArray.size = min xs.length ys.length := by
      rw [List.size_toArray,List.size_toArray,r1.length,r2.length]
    refine W.done s _ E ?_ fun h' tk kk => ⟨rfl,I.turnedL (t' := tk) kk fun b hb => hf b (by simp at hb ⊢; rcases hb with h | h | h | h <;> simp [h])⟩
    rw [el]
    exact ⟨hz,hTI,hTO,h1,h2,p1.isList,p2.isList⟩
  self := fun _ _ _ _ _ st h => wpAny_pyIter_zip st.1 h
theorem turn_enum {P : Program} {w : World} {K : PySem.W.Frag} {elts : List Expr} {kt : Nat} {pos : Pos} (e it l : Addr) (hei : e ≠ it) (hle : l ≠ e) (hli : l ≠ it) :
    Turn P w K (.Tuple elts kt pos) (Ite K l) [e,it] e (fun i h => (∃ old,IsEnum h e it i old) ∧ h.IsListIter it l i) where
  mem := by simp
  obj := fun i h st b hb => by
    obtain ⟨⟨old,he⟩,⟨o1,e1,c1,d1⟩⟩ := st
    simp only [List.mem_cons,List.not_mem_nil,or_false] at hb
    rcases hb with rfl | rfl
    · exact ⟨_,he,fun v y => by cases y⟩
    · exact ⟨o1,e1,fun v y => by rw [d1] at y; cases y⟩
  keep := fun i h h' st k => by
    obtain ⟨⟨old,he⟩,h1⟩ := st
    exact ⟨⟨old,k e (by simp) _ he⟩,h1.at fun o x => k it (by simp) o x⟩
  item := by
    intro X hP hw hK hc i pins s σ H E I hf st hg
    subst hP hw hK
    obtain ⟨xs,x,q1,hx⟩ := hg
    obtain ⟨its,r1,p1,_⟩ := I.list q1
    obtain ⟨u1,hu1,ru1⟩ := r1.get hx
    have W := WalksT.enumerate (prog := X.prog) (w := X.w) (I.ok.hd hc) e it l hei hle hli its.toArray
    have hn : i < its.toArray.size := by
      have g1 := (List.getElem?_eq_some_iff.mp hu1).1
      simp only [List.size_toArray]
      omega
    obtain ⟨he,h1⟩ := st
    refine turn_item W I (fun b hb => hf b (by simpa using hb)) hn ⟨he,h1,p1.isList⟩ fun T vals s2 hp hT tup st2 J2 kall => ?_
    obtain ⟨tk,v1,e1,rfl⟩ := hp
    have e1' : its[i]? = some v1 := by simpa using e1
    rw [hu1] at e1'
    cases e1'
    obtain ⟨J3,nT⟩ := track_tup (xs := [.int (i : Int),x]) (us := [.int i tk,u1]) I J2 hT tup (.cons ⟨_,rfl⟩ (.cons ru1 .nil)) (Sp1.sz (by simp))
    obtain ⟨he2,h12,_⟩ := st2
    refine ⟨.ref T,upd H T (.tup [.int (i : Int),x]),J3,rfl,⟨T,x,rfl,nT,rfl,fun as qa => ?_⟩,⟨he2,h12⟩,fun b hb => ?_⟩
    · rw [I.list_inj qa q1]
      exact hx
    · have hb' : ∃ o,s.heap.get? b = some o := by
        obtain ⟨old,he⟩ := he
        obtain ⟨o1,e1,_⟩ := h1
        simp only [List.mem_cons,List.not_mem_nil,or_false] at hb
        rcases hb with rfl | rfl
        · exact ⟨_,he⟩
        · exact ⟨_,e1⟩
      obtain ⟨o,eo⟩ := hb'
      rw [upd_ne (Nat.ne_of_lt (Nat.lt_of_lt_of_le (Heap.lt_size eo) hT))]
      exact (hf b hb).1
  done := by
    intro X hP hw hK hc i pins s σ H E I hf st hg
    subst hP hw hK
    obtain ⟨xs,q1,rfl⟩ := hg
    obtain ⟨its,r1,p1,_⟩ := I.list q1
    have W := WalksT.enumerate (prog := X.prog) (w := X.w) (I.ok.hd hc) e it l hei hle hli its.toArray
    obtain ⟨he,h1⟩ := st
    refine W.done s _ E ?_ fun h' tk kk => ⟨rfl,I.turnedL (t' := tk) kk fun b hb => hf b (by simpa using hb)⟩
    rw [List.size_toArray,← r1.length]
    exact ⟨he,h1,p1.isList⟩
  self := fun _ _ _ _ _ st h => by
    obtain ⟨⟨old,he⟩,_⟩ := st
    exact wpAny_pyIter_enum he h
section
variable {X : Cx} {elts : List Expr} {kt : Nat} {tpos : Pos}
def iZip (K : PySem.W.Frag) (ta : TA) : TI := fun σ H R => ta σ H fun vs H1 => ∃ a b,vs = [.ref a,.ref b] ∧ (∃ xs,SqL K H1 a xs) ∧ (∃ ys,SqL K H1 b ys) ∧ R (Itz K a b) H1
def iEnum (K : PySem.W.Frag) (ta : TA) : TI := fun σ H R => ta σ H fun vs H1 => ∃ a,vs = [.ref a] ∧ (∃ xs,SqL K H1 a xs) ∧ R (Ite K a) H1
theorem bt_zip : bootBuiltins "zip" = some (.type "zip") := by decide +kernel
theorem bt_enumerate : bootBuiltins "enumerate" = some (.type "enumerate") := by decide +kernel
theorem pi_zip {a b : Expr} {ta : TA} {p pos : Pos} (hg : Gl X "zip") (hm : X.mg "zip" = none) (ha : PA X [a,b] ta) (hs : starEach [a,b] X.env = [(false,eval a X.env),(false,eval b X.env)] := by rfl) (hs2 : starEach [b] X.env = [(false,eval b X.env)] := by rfl) :
    PI X (.Tuple elts kt tpos) (.Call (.Name "zip" p) [a,b] [] pos) (iZip X.K ta) := by
  intro pins s σ H R I h
  refine Call_ (ld_blt I hg hm bt_zip (PyProof.Rows.callWith_type1 (thn (ha pos pins s σ H _ I h) fun us s1 ⟨vs,H1,I1,r1,q1⟩ => ?_) (by rw [hs,hs2]) (by rw [hs2]; rfl)))
  obtain ⟨l1,l2,e,⟨xs,hx⟩,⟨ys,hy⟩,q⟩ := q1
  subst e
  cases r1 with
  | cons r rr =>
    cases rr with
    | cons r' rr =>
      cases rr
      cases r
      cases r'
      obtain ⟨its,_,p1,_⟩ := I1.list hx
      obtain ⟨jts,_,p2,_⟩ := I1.list hy
      refine call_zip_2 p1.isList p2.isList fun h' hz hTI hTO hi1 hi2 hsz hk => ?_
      refine wpAny_pyIter_zip hz ?_
      have a1 : l1 < s1.heap.objs.size := by obtain ⟨_,e,_⟩ := p1.isList; exact Heap.lt_size e
      have a2 : l2 < s1.heap.objs.size := by obtain ⟨_,e,_⟩ := p2.isList; exact Heap.lt_size e
      refine ⟨s1.heap.objs.size + 4,[s1.heap.objs.size + 4,s1.heap.objs.size + 2,s1.heap.objs.size + 3,s1.heap.objs.size,s1.heap.objs.size + 1],_,_,H1,rfl,I1.kept (t' := s1.toks) hk,turn_zip _ _ _ _ _ l1 l2 (zipApart_new a1 a2),⟨hz,hTI,⟨_,_,hTO⟩,hi1,hi2⟩,fun b hb => ?_,q⟩
      have hb' : s1.heap.objs.size ≤ b := by
        simp only [List.mem_cons,List.not_mem_nil,or_false] at hb
        rcases hb with rfl | rfl | rfl | rfl | rfl <;> omega
      exact I1.fpOk hb' (I1.hok.fresh hb')
theorem pi_enum {a : Expr} {ta : TA} {p pos : Pos} (hg : Gl X "enumerate") (hm : X.mg "enumerate" = none) (ha : PA X [a] ta) (hs : starEach [a] X.env = [(false,eval a X.env)] := by rfl) :
    PI X (.Tuple elts kt tpos) (.Call (.Name "enumerate" p) [a] [] pos) (iEnum X.K ta) := by
  intro pins s σ H R I h
  refine Call_ (ld_blt I hg hm bt_enumerate (PyProof.Rows.callWith_type1 (thn (ha pos pins s σ H _ I h) fun us s1 ⟨vs,H1,I1,r1,q1⟩ => ?_) hs rfl))
  obtain ⟨l,e,⟨xs,hx⟩,q⟩ := q1
  subst e
  cases r1 with
  | cons r rr =>
    cases rr
    cases r
    obtain ⟨its,_,p1,_⟩ := I1.list hx
    refine call_enumerate_list p1.isList fun h' he hi hsz hk => ?_
    refine wpAny_pyIter_enum he ?_
    have a1 : l < s1.heap.objs.size := by obtain ⟨_,e,_⟩ := p1.isList; exact Heap.lt_size e
    refine ⟨s1.heap.objs.size + 1,[s1.heap.objs.size + 1,s1.heap.objs.size],_,_,H1,rfl,I1.kept (t' := s1.toks) hk,turn_enum _ _ l (Nat.succ_ne_self _) (Nat.ne_of_lt (Nat.lt_succ_of_lt a1)) (Nat.ne_of_lt a1),⟨⟨_,he⟩,hi⟩,fun b hb => ?_,q⟩
    have hb' : s1.heap.objs.size ≤ b := by
      simp only [List.mem_cons,List.not_mem_nil,or_false] at hb
      rcases hb with rfl | rfl <;> omega
    exact I1.fpOk hb' (I1.hok.fresh hb')
end
theorem for_zip {K : PySem.W.Frag} {a b : Addr} {xs ys : List V} {g : TG} {tb : TS} {D : Ends} {σ : St} {H : Hp} (Pv : Nat → St → Hp → Prop) (h0 : Pv 0 σ H) (hl : ∀ i σ H,i ≤ min xs.length ys.length → Pv i σ H → SqL K H a xs ∧ SqL K H b ys)
    (hs : ∀ i x y p σ H H1,xs[i]? = some x → ys[i]? = some y → Pv i σ H → Same H H1 → H1 p = some (.tup [x,y]) → g (.ref p) σ H1 fun σ2 H2 => tb { D with nx := Pv (i + 1),ct := Pv (i + 1),bk := D.nx } σ2 H2) (hd : ∀ σ H,Pv (min xs.length ys.length) σ H → D.nx σ H) :
    ∃ W : Nat → Nat → St → Hp → Prop,(∃ m,W 0 m σ H) ∧ ∀ i m σ H,W i m σ H →
      ((Itz K a b).stop i H ∧ D.nx σ H) ∨ ((Itz K a b).go i H ∧ ∃ N : St → Hp → Prop,(∀ σ' H',N σ' H' → ∃ m',m' < m ∧ W (i + 1) m' σ' H') ∧ ∀ x H',(Itz K a b).yld i H x H' → g x σ H' fun σ2 H2 => tb { D with nx := N,ct := N,bk := D.nx } σ2 H2) := by
  refine ⟨fun i m σ H => m = min xs.length ys.length - i ∧ i ≤ min xs.length ys.length ∧ Pv i σ H,⟨_,rfl,Nat.zero_le _,h0⟩,?_⟩
  rintro i m σ H ⟨rfl,hi,p⟩
  obtain ⟨q1,q2⟩ := hl i σ H hi p
  by_cases hlt : i < min xs.length ys.length
  · have h1 : i < xs.length := by omega
    have h2 : i < ys.length := by omega
    refine .inr ⟨⟨xs,ys,xs[i],ys[i],q1,q2,by simp [h1],by simp [h2]⟩,Pv (i + 1),fun σ' H' p' => ⟨_,by omega,rfl,hlt,p'⟩,fun v H' y => ?_⟩
    obtain ⟨t,x,y,rfl,nt,rfl,e⟩ := y
    obtain ⟨e1,e2⟩ := e xs ys q1 q2
    exact hs i x y t σ H _ e1 e2 p (Same.new nt) upd_same
  · have e : i = min xs.length ys.length := by omega
    subst e
    exact .inl ⟨⟨xs,ys,q1,q2,rfl⟩,hd σ H p⟩
theorem for_enum {K : PySem.W.Frag} {a : Addr} {xs : List V} {g : TG} {tb : TS} {D : Ends} {σ : St} {H : Hp} (Pv : Nat → St → Hp → Prop) (h0 : Pv 0 σ H) (hl : ∀ i σ H,i ≤ xs.length → Pv i σ H → SqL K H a xs)
    (hs : ∀ i x p σ H H1,xs[i]? = some x → Pv i σ H → Same H H1 → H1 p = some (.tup [.int (i : Int),x]) → g (.ref p) σ H1 fun σ2 H2 => tb { D with nx := Pv (i + 1),ct := Pv (i + 1),bk := D.nx } σ2 H2) (hd : ∀ σ H,Pv xs.length σ H → D.nx σ H) :
    ∃ W : Nat → Nat → St → Hp → Prop,(∃ m,W 0 m σ H) ∧ ∀ i m σ H,W i m σ H →
      ((Ite K a).stop i H ∧ D.nx σ H) ∨ ((Ite K a).go i H ∧ ∃ N : St → Hp → Prop,(∀ σ' H',N σ' H' → ∃ m',m' < m ∧ W (i + 1) m' σ' H') ∧ ∀ x H',(Ite K a).yld i H x H' → g x σ H' fun σ2 H2 => tb { D with nx := N,ct := N,bk := D.nx } σ2 H2) := by
  refine ⟨fun i m σ H => m = xs.length - i ∧ i ≤ xs.length ∧ Pv i σ H,⟨_,rfl,Nat.zero_le _,h0⟩,?_⟩
  rintro i m σ H ⟨rfl,hi,p⟩
  have q1 := hl i σ H hi p
  by_cases hlt : i < xs.length
  · refine .inr ⟨⟨xs,xs[i],q1,by simp [hlt]⟩,Pv (i + 1),fun σ' H' p' => ⟨_,by omega,rfl,hlt,p'⟩,fun v H' y => ?_⟩
    obtain ⟨t,x,rfl,nt,rfl,e⟩ := y
    exact hs i x t σ H _ (e xs q1) p (Same.new nt) upd_same
  · have e : i = xs.length := by omega
    subst e
    exact .inl ⟨⟨xs,q1,rfl⟩,hd σ H p⟩
end L2
namespace L2
open PySem PySem.Spec PyProof.Rows
inductive D where
  | non | bl (b : Bool) | int (i : Int) | str (x : Str) | tup (ds : List D) | lst (ds : List D)
inductive Rp (H : Hp) : Nat → V → D → Prop where
  | non {n : Nat} : Rp H n .non .non
  | bl {n : Nat} {b : Bool} : Rp H n (.bl b) (.bl b)
  | int {n : Nat} {i : Int} : Rp H n (.int i) (.int i)
  | str {n : Nat} {x : Str} : Rp H n (.str x) (.str x)
  | tup {n : Nat} {p : Addr} {xs : List V} {ds : List D} (e : H p = some (.tup xs)) (hl : xs.length = ds.length) (h : ∀ (j : Nat) x d,xs[j]? = some x → ds[j]? = some d → Rp H n x d) : Rp H (n + 1) (.ref p) (.tup ds)
  | lst {n : Nat} {p : Addr} {xs : List V} {ds : List D} (e : H p = some (.lst xs)) (hl : xs.length = ds.length) (h : ∀ (j : Nat) x d,xs[j]? = some x → ds[j]? = some d → Rp H n x d) : Rp H (n + 1) (.ref p) (.lst ds)
mutual
def deq : D → D → Bool
  | .non,.non => true
  | .bl a,.bl b => a == b
  | .bl a,.int b => (if a then 1 else 0) == b
  | .int a,.bl b => a == (if b then 1 else 0)
  | .int a,.int b => a == b
  | .str a,.str b => a == b
  | .tup xs,.tup ys => deqs xs ys
  | .lst xs,.lst ys => deqs xs ys
  | _,_ => false
def deqs : List D → List D → Bool
  | [],[] => true
  | x :: xs,y :: ys => deq x y && deqs xs ys
  | _,_ => false
end
theorem deqs_all : ∀ (ds es : List D),((List.range (min ds.length es.length)).all (fun j => deq (ds.getD j .non) (es.getD j .non)) && ds.length == es.length) = deqs ds es
  | [],[] => by simp [deqs]
  | [],e :: es => by simp [deqs]
  | d :: ds,[] => by simp [deqs]
  | d :: ds,e :: es => by
    have ih := deqs_all ds es
    have hm : min (d :: ds).length (e :: es).length = min ds.length es.length + 1 := by simp only [List.length_cons]; omega
    rw [hm,List.range_succ_eq_map,List.all_cons,List.all_map]
    simp only [deqs,List.getD_cons_zero,List.length_cons]
    rw [← ih,Bool.and_assoc]
    congr 1
    simp [Function.comp_def]
theorem deqs_len {ds es : List D} (h : ds.length ≠ es.length) : deqs ds es = false := by
  rw [← deqs_all]
  simp [h]
theorem deqs_all' {ds es : List D} (h : ds.length = es.length) : (List.range ds.length).all (fun j => deq (ds.getD j .non) (es.getD j .non)) = deqs ds es := by
  rw [← deqs_all,h]
  simp
theorem deqs_of {ds es : List D} (hl : ds.length = es.length) (h : ∀ (j : Nat) d e,ds[j]? = some d → es[j]? = some e → deq d e = true) : deqs ds es = true := by
  rw [← deqs_all' hl,List.all_eq_true]
  intro j hj
  have hj' : j < ds.length := List.mem_range.mp hj
  have hj2 : j < es.length := by omega
  have e1 : ds[j]? = some ds[j] := List.getElem?_eq_getElem hj'
  have e2 : es[j]? = some es[j] := List.getElem?_eq_getElem hj2
  rw [List.getD_eq_getElem?_getD,List.getD_eq_getElem?_getD,e1,e2]
  exact h j _ _ e1 e2
theorem get_of_len {α β : Type} {xs : List α} {ds : List β} {j : Nat} {d : β} (hl : xs.length = ds.length) (h : ds[j]? = some d) : ∃ x,xs[j]? = some x := by
  have := (List.getElem?_eq_some_iff.mp h).1
  exact ⟨xs[j],List.getElem?_eq_getElem (by omega)⟩
theorem Rp.self {H : Hp} {n m : Nat} {v : V} {d e : D} (r : Rp H n v d) (q : Rp H m v e) : deq d e = true := by
  induction r generalizing m e with
  | non => cases q; rfl
  | bl => cases q; simp [deq]
  | int => cases q; simp [deq]
  | str => cases q; simp [deq]
  | tup e1 hl h ih =>
    cases q with
    | tup e2 hl2 h2 =>
      rw [e1] at e2
      cases e2
      refine deqs_of (by omega) fun j a b ea eb => ?_
      obtain ⟨x,hx⟩ := get_of_len hl ea
      exact ih j x a hx ea (h2 j x b hx eb)
    | lst e2 hl2 h2 => rw [e1] at e2; cases e2
  | lst e1 hl h ih =>
    cases q with
    | tup e2 hl2 h2 => rw [e1] at e2; cases e2
    | lst e2 hl2 h2 =>
      rw [e1] at e2
      cases e2
      refine deqs_of (by omega) fun j a b ea eb => ?_
      obtain ⟨x,hx⟩ := get_of_len hl ea
      exact ih j x a hx ea (h2 j x b hx eb)
section
variable {X : Cx} {pins : List (Addr × Obj)} {σ : St} {H : Hp} {s : Shared}
theorem elts_at {A : Around} {xs ys : List V} {us ws : List Value} {ds es : List D} (r : Vals xs us) (r' : Vals ys ws) (hl : xs.length = ds.length) (hl' : ys.length = es.length)
    (h : ∀ (j : Nat) x y d e u w,xs[j]? = some x → ys[j]? = some y → ds[j]? = some d → es[j]? = some e → RelV x u → RelV y w → SeqAt.EqAt A s u w (deq d e))
    (j : Nat) (h1 : j < us.toArray.size) (h2 : j < ws.toArray.size) : SeqAt.EqAt A s us.toArray[j] ws.toArray[j] (deq (ds.getD j .non) (es.getD j .non)) := by
  rw [List.size_toArray] at h1 h2
  obtain ⟨a,ea,ra⟩ := val_get r h1
  obtain ⟨c,ec,rc⟩ := val_get r' h2
  have g1 := (List.getElem?_eq_some_iff.mp ea).1
  have g2 := (List.getElem?_eq_some_iff.mp ec).1
  have e1 : ds[j]? = some ds[j] := List.getElem?_eq_getElem (by omega)
  have e2 : es[j]? = some es[j] := List.getElem?_eq_getElem (by omega)
  rw [List.getD_eq_getElem?_getD,List.getD_eq_getElem?_getD,e1,e2]
  exact h j a c _ _ _ _ ea ec e1 e2 ra rc
theorem Rp.eqAt {n : Nat} {x : V} {d : D} (r : Rp H n x d) : ∀ {m : Nat} {y : V} {e : D} {A : Around} {u v : Value},Rp H m y e → Inv X pins σ H s → RelV x u → RelV y v → A.units + n < cLine → SeqAt.EqAt A s u v (deq d e) := by
  induction r with
  | non =>
    intro m y e A u v q I ru rv hu
    cases ru
    cases q with
    | non => cases rv; exact SeqAt.EqAt.same _
    | bl => cases rv; exact SeqAt.EqAt.none_bool _
    | int => obtain ⟨_,rfl⟩ := rv; exact SeqAt.EqAt.none_int _ _
    | str => obtain ⟨_,rfl⟩ := rv; exact SeqAt.EqAt.none_str _ _
    | tup e1 hl h => cases rv; obtain ⟨its,_,pl,_⟩ := I.tuple (SqT.of e1); exact SeqAt.EqAt.none_tuple pl (by omega)
    | lst e1 hl h => cases rv; obtain ⟨its,_,pl,_⟩ := I.list (SqL.of e1); exact SeqAt.EqAt.none_list pl.isList (by omega)
  | bl =>
    intro m y e A u v q I ru rv hu
    cases ru
    cases q with
    | non => cases rv; exact SeqAt.EqAt.bool_none _
    | bl => cases rv; exact SeqAt.EqAt.bool_bool _ _
    | int => obtain ⟨_,rfl⟩ := rv; exact SeqAt.EqAt.bool_int _ _ _
    | str => obtain ⟨_,rfl⟩ := rv; exact SeqAt.EqAt.bool_str _ _ _
    | tup e1 hl h => cases rv; obtain ⟨its,_,pl,_⟩ := I.tuple (SqT.of e1); exact SeqAt.EqAt.bool_tuple _ pl (by omega)
    | lst e1 hl h => cases rv; obtain ⟨its,_,pl,_⟩ := I.list (SqL.of e1); exact SeqAt.EqAt.bool_list _ pl.isList (by omega)
  | int =>
    intro m y e A u v q I ru rv hu
    obtain ⟨_,rfl⟩ := ru
    cases q with
    | non => cases rv; exact SeqAt.EqAt.int_none _ _
    | bl => cases rv; exact SeqAt.EqAt.int_bool _ _ _
    | int => obtain ⟨_,rfl⟩ := rv; exact SeqAt.EqAt.int_int _ _ _ _
    | str => obtain ⟨_,rfl⟩ := rv; exact SeqAt.EqAt.int_str _ _ _ _
    | tup e1 hl h => cases rv; obtain ⟨its,_,pl,_⟩ := I.tuple (SqT.of e1); exact SeqAt.EqAt.int_tuple _ _ pl (by omega)
    | lst e1 hl h => cases rv; obtain ⟨its,_,pl,_⟩ := I.list (SqL.of e1); exact SeqAt.EqAt.int_list _ _ pl.isList (by omega)
  | str =>
    intro m y e A u v q I ru rv hu
    obtain ⟨_,rfl⟩ := ru
    cases q with
    | non => cases rv; exact SeqAt.EqAt.str_none _ _
    | bl => cases rv; exact SeqAt.EqAt.str_bool _ _ _
    | int => obtain ⟨_,rfl⟩ := rv; exact SeqAt.EqAt.str_int _ _ _ _
    | str => obtain ⟨_,rfl⟩ := rv; exact SeqAt.EqAt.str_str _ _ _ _
    | tup e1 hl h => cases rv; obtain ⟨its,_,pl,_⟩ := I.tuple (SqT.of e1); exact SeqAt.EqAt.str_tuple _ _ pl (by omega)
    | lst e1 hl h => cases rv; obtain ⟨its,_,pl,_⟩ := I.list (SqL.of e1); exact SeqAt.EqAt.str_list _ _ pl.isList (by omega)
  | @tup n p xs ds e0 hl h ih =>
    intro m y e A u v q I ru rv hu
    cases ru
    obtain ⟨its,r1,pl,_⟩ := I.tuple (SqT.of e0)
    cases q with
    | non => cases rv; exact SeqAt.EqAt.tuple_none pl (by omega)
    | bl => cases rv; exact SeqAt.EqAt.tuple_bool _ pl (by omega)
    | int => obtain ⟨_,rfl⟩ := rv; exact SeqAt.EqAt.tuple_int _ _ pl (by omega)
    | str => obtain ⟨_,rfl⟩ := rv; exact SeqAt.EqAt.tuple_str _ _ pl (by omega)
    | lst e1 hl1 h1 => cases rv; obtain ⟨jts,_,pl',_⟩ := I.list (SqL.of e1); exact SeqAt.EqAt.tuple_list pl pl'.isList (by omega)
    | @tup m p' ys es e1 hl1 h1 =>
      cases rv
      by_cases hne : p = p'
      · subst hne
        have z : deq (.tup ds) (.tup es) = true := Rp.self (Rp.tup e0 hl h) (Rp.tup e1 hl1 h1)
        rw [z]
        exact SeqAt.EqAt.same _
      · obtain ⟨jts,r2,pl',_⟩ := I.tuple (SqT.of e1)
        have y := SeqAt.RcAt.tuples (A := A) (e := fun j => deq (ds.getD j .non) (es.getD j .non)) pl pl' (by omega) (elts_at r1 r2 hl hl1 fun j x y d e u w a b c k ra rb => ih j x d a c (h1 j y e b k) I ra rb (by show A.units + 1 + n < cLine; omega))
        rw [List.size_toArray,List.size_toArray,← r1.length,← r2.length,hl,hl1,deqs_all] at y
        exact SeqAt.EqAt.of_refs hne y
  | @lst n p xs ds e0 hl h ih =>
    intro m y e A u v q I ru rv hu
    cases ru
    obtain ⟨its,r1,pl,_⟩ := I.list (SqL.of e0)
    cases q with
    | non => cases rv; exact SeqAt.EqAt.list_none pl.isList (by omega)
    | bl => cases rv; exact SeqAt.EqAt.list_bool _ pl.isList (by omega)
    | int => obtain ⟨_,rfl⟩ := rv; exact SeqAt.EqAt.list_int _ _ pl.isList (by omega)
    | str => obtain ⟨_,rfl⟩ := rv; exact SeqAt.EqAt.list_str _ _ pl.isList (by omega)
    | tup e1 hl1 h1 => cases rv; obtain ⟨jts,_,pl',_⟩ := I.tuple (SqT.of e1); exact SeqAt.EqAt.list_tuple pl.isList pl' (by omega)
    | @lst m p' ys es e1 hl1 h1 =>
      cases rv
      by_cases hne : p = p'
      · subst hne
        have z : deq (.lst ds) (.lst es) = true := Rp.self (Rp.lst e0 hl h) (Rp.lst e1 hl1 h1)
        rw [z]
        exact SeqAt.EqAt.same _
      · obtain ⟨jts,r2,pl',_⟩ := I.list (SqL.of e1)
        have g1 := r1.length
        have g2 := r2.length
        by_cases hz : ds.length = es.length
        · have y := SeqAt.RcAt.lists (A := A) (e := fun j => deq (ds.getD j .non) (es.getD j .non)) pl.isList pl'.isList (by rw [List.size_toArray,List.size_toArray]; omega) (by omega) (elts_at r1 r2 hl hl1 fun j x y d e u w a b c k ra rb => ih j x d a c (h1 j y e b k) I ra rb (by show A.units + 1 + n < cLine; omega))
          rw [List.size_toArray,← r1.length,hl,deqs_all' hz] at y
          exact SeqAt.EqAt.of_refs hne y
        · rw [show deq (.lst ds) (.lst es) = false from deqs_len hz]
          exact SeqAt.EqAt.of_refs hne (SeqAt.RcAt.lists_lengths pl.isList pl'.isList (by rw [List.size_toArray,List.size_toArray]; simp; omega) (by omega))
end
end L2
namespace L2
open PySem PySem.Spec PyProof.Rows
section
variable {X : Cx} {pins : List (Addr × Obj)} {σ : St} {H : Hp} {s : Shared}
theorem Rp.rcAt {A : Around} {n m : Nat} {x y : V} {d e : D} {u v : Value} (r : Rp H n x d) (q : Rp H m y e) (I : Inv X pins σ H s) (ru : RelV x u) (rv : RelV y v) (hu : A.units + n + 1 < cLine) : SeqAt.RcAt A s u v (deq d e) := by
  cases r with
  | non =>
    cases q with
    | non =>
      cases ru
      cases rv
      exact SeqAt.RcAt.none_none
    | bl =>
      cases ru
      cases rv
      exact SeqAt.RcAt.none_bool _
    | int =>
      cases ru
      obtain ⟨_,rfl⟩ := rv
      exact SeqAt.RcAt.none_int _ _
    | str =>
      cases ru
      obtain ⟨_,rfl⟩ := rv
      exact SeqAt.RcAt.none_str _ _
    | @tup m p' ys es e1 hl1 h1 =>
      cases ru
      cases rv
      obtain ⟨jts,r2,pl',_⟩ := I.tuple (SqT.of e1)
      exact SeqAt.RcAt.none_tuple pl' (by omega)
    | @lst m p' ys es e1 hl1 h1 =>
      cases ru
      cases rv
      obtain ⟨jts,r2,pl',_⟩ := I.list (SqL.of e1)
      exact SeqAt.RcAt.none_list pl'.isList (by omega)
  | bl =>
    cases q with
    | non =>
      cases ru
      cases rv
      exact SeqAt.RcAt.bool_none _
    | bl =>
      cases ru
      cases rv
      exact SeqAt.RcAt.bool_bool _ _
    | int =>
      cases ru
      obtain ⟨_,rfl⟩ := rv
      exact SeqAt.RcAt.bool_int _ _ _
    | str =>
      cases ru
      obtain ⟨_,rfl⟩ := rv
      exact SeqAt.RcAt.bool_str _ _ _
    | @tup m p' ys es e1 hl1 h1 =>
      cases ru
      cases rv
      obtain ⟨jts,r2,pl',_⟩ := I.tuple (SqT.of e1)
      exact SeqAt.RcAt.bool_tuple _ pl' (by omega)
    | @lst m p' ys es e1 hl1 h1 =>
      cases ru
      cases rv
      obtain ⟨jts,r2,pl',_⟩ := I.list (SqL.of e1)
      exact SeqAt.RcAt.bool_list _ pl'.isList (by omega)
  | int =>
    cases q with
    | non =>
      obtain ⟨_,rfl⟩ := ru
      cases rv
      exact SeqAt.RcAt.int_none _ _
    | bl =>
      obtain ⟨_,rfl⟩ := ru
      cases rv
      exact SeqAt.RcAt.int_bool _ _ _
    | int =>
      obtain ⟨_,rfl⟩ := ru
      obtain ⟨_,rfl⟩ := rv
      exact SeqAt.RcAt.int_int _ _ _ _
    | str =>
      obtain ⟨_,rfl⟩ := ru
      obtain ⟨_,rfl⟩ := rv
      exact SeqAt.RcAt.int_str _ _ _ _
    | @tup m p' ys es e1 hl1 h1 =>
      obtain ⟨_,rfl⟩ := ru
      cases rv
      obtain ⟨jts,r2,pl',_⟩ := I.tuple (SqT.of e1)
      exact SeqAt.RcAt.int_tuple _ _ pl' (by omega)
    | @lst m p' ys es e1 hl1 h1 =>
      obtain ⟨_,rfl⟩ := ru
      cases rv
      obtain ⟨jts,r2,pl',_⟩ := I.list (SqL.of e1)
      exact SeqAt.RcAt.int_list _ _ pl'.isList (by omega)
  | str =>
    cases q with
    | non =>
      obtain ⟨_,rfl⟩ := ru
      cases rv
      exact SeqAt.RcAt.str_none _ _
    | bl =>
      obtain ⟨_,rfl⟩ := ru
      cases rv
      exact SeqAt.RcAt.str_bool _ _ _
    | int =>
      obtain ⟨_,rfl⟩ := ru
      obtain ⟨_,rfl⟩ := rv
      exact SeqAt.RcAt.str_int _ _ _ _
    | str =>
      obtain ⟨_,rfl⟩ := ru
      obtain ⟨_,rfl⟩ := rv
      exact SeqAt.RcAt.str_str _ _ _ _
    | @tup m p' ys es e1 hl1 h1 =>
      obtain ⟨_,rfl⟩ := ru
      cases rv
      obtain ⟨jts,r2,pl',_⟩ := I.tuple (SqT.of e1)
      exact SeqAt.RcAt.str_tuple _ _ pl' (by omega)
    | @lst m p' ys es e1 hl1 h1 =>
      obtain ⟨_,rfl⟩ := ru
      cases rv
      obtain ⟨jts,r2,pl',_⟩ := I.list (SqL.of e1)
      exact SeqAt.RcAt.str_list _ _ pl'.isList (by omega)
  | @tup n p xs ds e0 hl h =>
    cases q with
    | non =>
      cases ru
      cases rv
      obtain ⟨its,r1,pl,_⟩ := I.tuple (SqT.of e0)
      exact SeqAt.RcAt.tuple_none pl (by omega)
    | bl =>
      cases ru
      cases rv
      obtain ⟨its,r1,pl,_⟩ := I.tuple (SqT.of e0)
      exact SeqAt.RcAt.tuple_bool _ pl (by omega)
    | int =>
      cases ru
      obtain ⟨_,rfl⟩ := rv
      obtain ⟨its,r1,pl,_⟩ := I.tuple (SqT.of e0)
      exact SeqAt.RcAt.tuple_int _ _ pl (by omega)
    | str =>
      cases ru
      obtain ⟨_,rfl⟩ := rv
      obtain ⟨its,r1,pl,_⟩ := I.tuple (SqT.of e0)
      exact SeqAt.RcAt.tuple_str _ _ pl (by omega)
    | @tup m p' ys es e1 hl1 h1 =>
      cases ru
      cases rv
      obtain ⟨its,r1,pl,_⟩ := I.tuple (SqT.of e0)
      obtain ⟨jts,r2,pl',_⟩ := I.tuple (SqT.of e1)
      have y := SeqAt.RcAt.tuples (A := A) (e := fun j => deq (ds.getD j .non) (es.getD j .non)) pl pl' (by omega) (elts_at r1 r2 hl hl1 fun j x y d e u w a b c k ra rb => (h j x d a c).eqAt (h1 j y e b k) I ra rb (by show A.units + 1 + _ < cLine; omega))
      rw [List.size_toArray,List.size_toArray,← r1.length,← r2.length,hl,hl1,deqs_all] at y
      exact y
    | @lst m p' ys es e1 hl1 h1 =>
      cases ru
      cases rv
      obtain ⟨its,r1,pl,_⟩ := I.tuple (SqT.of e0)
      obtain ⟨jts,r2,pl',_⟩ := I.list (SqL.of e1)
      exact SeqAt.RcAt.tuple_list pl pl'.isList (by omega)
  | @lst n p xs ds e0 hl h =>
    cases q with
    | non =>
      cases ru
      cases rv
      obtain ⟨its,r1,pl,_⟩ := I.list (SqL.of e0)
      exact SeqAt.RcAt.list_none pl.isList (by omega)
    | bl =>
      cases ru
      cases rv
      obtain ⟨its,r1,pl,_⟩ := I.list (SqL.of e0)
      exact SeqAt.RcAt.list_bool _ pl.isList (by omega)
    | int =>
      cases ru
      obtain ⟨_,rfl⟩ := rv
      obtain ⟨its,r1,pl,_⟩ := I.list (SqL.of e0)
      exact SeqAt.RcAt.list_int _ _ pl.isList (by omega)
    | str =>
      cases ru
      obtain ⟨_,rfl⟩ := rv
      obtain ⟨its,r1,pl,_⟩ := I.list (SqL.of e0)
      exact SeqAt.RcAt.list_str _ _ pl.isList (by omega)
    | @tup m p' ys es e1 hl1 h1 =>
      cases ru
      cases rv
      obtain ⟨its,r1,pl,_⟩ := I.list (SqL.of e0)
      obtain ⟨jts,r2,pl',_⟩ := I.tuple (SqT.of e1)
      exact SeqAt.RcAt.list_tuple pl.isList pl' (by omega)
    | @lst m p' ys es e1 hl1 h1 =>
      cases ru
      cases rv
      obtain ⟨its,r1,pl,_⟩ := I.list (SqL.of e0)
      obtain ⟨jts,r2,pl',_⟩ := I.list (SqL.of e1)
      have g1 := r1.length
      have g2 := r2.length
      by_cases hz : ds.length = es.length
      · have y := SeqAt.RcAt.lists (A := A) (e := fun j => deq (ds.getD j .non) (es.getD j .non)) pl.isList pl'.isList (by rw [List.size_toArray,List.size_toArray]; omega) (by omega) (elts_at r1 r2 hl hl1 fun j x y d e u w a b c k ra rb => (h j x d a c).eqAt (h1 j y e b k) I ra rb (by show A.units + 1 + _ < cLine; omega))
        rw [List.size_toArray,← r1.length,hl,deqs_all' hz] at y
        exact y
      · rw [show deq (.lst ds) (.lst es) = false from deqs_len hz]
        exact SeqAt.RcAt.lists_lengths pl.isList pl'.isList (by rw [List.size_toArray,List.size_toArray]; simp; omega) (by omega)
end
section
variable {X : Cx}
inductive rEqD (neg : Bool) (x : V) (y : V) (H : Hp) (Q : VK) : Prop
  | mk : ∀ d e,(Rp H 9 x d) → (Rp H 9 y e) → (Q (.bl (if neg then !(deq d e) else deq d e)) H) → rEqD neg x y H Q
theorem op_eqD (hu : X.A.units + 10 < cLine) : OpR X (compareOp .Eq) (rEqD false) := by
  intro pins s σ H x y v u Q I rx ry h
  obtain ⟨d,e,rd,re,k⟩ := h
  exact rd.rcAt re I rx ry (by omega) _ _ _ _ ⟨.bl _,H,I,rfl,k⟩
end
section
variable {H : Hp} {n : Nat} {p : Addr} {x y z w : V} {a b c d : D}
theorem Rp.t2 (e : H p = some (.tup [x,y])) (ha : Rp H n x a) (hb : Rp H n y b) : Rp H (n + 1) (.ref p) (.tup [a,b]) := .tup e rfl fun j x d h k => by
  match j with
  | 0 => cases h; cases k; exact ha
  | 1 => cases h; cases k; exact hb
  | j + 2 => simp at h
mutual
theorem deq_self : ∀ d : D,deq d d = true
  | .non => rfl
  | .bl b => by simp [deq]
  | .int i => by simp [deq]
  | .str x => by simp [deq]
  | .tup ds => by simp only [deq]; exact deqs_same ds
  | .lst ds => by simp only [deq]; exact deqs_same ds
theorem deqs_same : ∀ ds : List D,deqs ds ds = true
  | [] => by simp [deqs]
  | d :: ds => by simp only [deqs,Bool.and_eq_true]; exact ⟨deq_self d,deqs_same ds⟩
end
end
end L2
namespace L2
open PySem PySem.Spec PyProof.Rows
structure CompM (X : Cx) (scope : Scope) (cl : List (Str × Addr)) (xs : List Str) (fv : List (Str × Nat)) : Prop where
  clos : closureFor scope X.env = pure cl
  kind : scope.kind = .function
  cell : ∀ y ∈ scope.names,y.2 ≠ .cell
  names : ∀ y ∈ scope.names,y.2 = .local → scope.names.lookup y.1 = some .local
  own : ∀ x ∈ xs,scope.names.lookup x = some .local
  cells : ∀ p ∈ cl,X.env.cells.lookup p.1 = some p.2
  has : ((relabel scope X.env).names.all fun q => !(q.2 == .cell || q.2 == .free) || (cl.lookup q.1).isSome) = true
  nd : (xs ++ fv.map (·.1)).Nodup
  slot : ∀ p ∈ fv,X.N[p.2]? = some p.1 ∧ X.env.kindOf p.1 = some .cell ∧ Vis X.env.scope p.1 ∧ (cl.lookup p.1).isSome = true ∧ ((relabel scope X.env).names.lookup p.1 = some .cell)
  stk : X.stack = X.env :: X.outer ∧ X.env.frame = some X.env.locals
  noex : X.ex = []
def PTs (X : Cx) (ifs : List Expr) (tc : TT) : Prop :=
  ∀ (pins : List (Addr × Obj)) (s : Shared) (σ : St) (H : Hp) (Q : Bool → Hp → Prop),Inv X pins σ H s → tc σ H Q →
    wpAny (model X.prog X.w) X.A (forIn ifs true fun c r => if r = true then do let ok ← isTrue c X.env (eval c X.env); pure (ForInStep.yield ok) else pure (ForInStep.yield r)) (fun b s' => ∃ H',Inv X pins σ H' s' ∧ Q b H') X.xe s
def tYes : TT := fun _ H Q => Q true H
theorem pts_nil {X : Cx} : PTs X [] tYes := fun pins s σ H Q I h => wpAny_tests_nil ⟨H,I,h⟩
theorem compLoop_go {prog : Program} {w : World} {A : Around} {R : Result → Shared → Prop} {s : Shared} {elt target iter : Expr} {ifs : List Expr} {scope : Scope} {pos : Pos} {it acc : Value} {env : Env} (I : Nat → Shared → Prop)
    (turn : ∀ n s,I n s → wpAny (model prog w) A (pyNext it) (fun r s₁ => match r with
      | none => R (.ok .next) s₁
      | some v => wpAny (model prog w) A (letOwnedTupleGo target it v) (fun _ s₀ => wpAny (model prog w) A (assign target env v) (fun _ s₂ =>
          wpAny (model prog w) A (forIn ifs true fun c r => if r = true then do let ok ← isTrue c env (eval c env); pure (ForInStep.yield ok) else pure (ForInStep.yield r)) (fun ok s₃ =>
            if ok = true then wpAny (model prog w) A (eval elt env) (fun x s₄ =>
              wpAny (model prog w) A (call (.builtin "list.append") [acc,x]) (fun _ s₅ => ∃ m,m < n ∧ I m s₅) (notedBy (model prog w) A env fun e s' => R (.error e) s') s₄) (notedBy (model prog w) A env fun e s' => R (.error e) s') s₃
            else ∃ m,m < n ∧ I m s₃) (notedBy (model prog w) A env fun e s' => R (.error e) s') s₂) (notedBy (model prog w) A env fun e s' => R (.error e) s') s₀) (notedBy (model prog w) A env fun e s' => R (.error e) s') s₁) (notedBy (model prog w) A env fun e s' => R (.error e) s') s)
    (n : Nat) (h : I n s) : codeAny (model prog w) A (.compLoop (.ListComp elt [⟨target,iter,ifs,0⟩] scope pos) 0 it acc env) R s := by
  refine codeAny_loop rfl I (fun n s hI => ?_) n h
  show wpAny _ A ((compTurn (.ListComp elt [⟨target,iter,ifs,0⟩] scope pos) 0 it acc env).onRaise (fun x => do noteFrame x env; theTreesLotGoes x)) _ _ s
  refine wpAny_noted ?_
  rw [compTurn_list]
  refine wpAny_bind (wpAny_standAt (wpAny_bind (wpAny_mono (turn n s hI) (fun r s₁ h₁ => ?_) fun _ _ h' => h')))
  cases r with
  | none => exact wpAny_pure h₁
  | some v =>
    refine wpAny_bind (wpAny_mono h₁ (fun _ s₀ h₀ => ?_) fun _ _ h' => h')
    refine wpAny_bind (wpAny_mono h₀ (fun _ s₂ h₂ => wpAny_bind (wpAny_mono h₂ (fun ok s₃ h₃ => ?_) fun _ _ h' => h')) fun _ _ h' => h')
    cases ok with
    | false => exact wpAny_pure ⟨rfl,h₃⟩
    | true => exact wpAny_bind (wpAny_bind (wpAny_mono h₃ (fun x s₄ h₄ => wpAny_bind (wpAny_mono h₄ (fun _ s₅ h₅ => wpAny_pure (wpAny_pure ⟨rfl,h₅⟩)) fun _ _ h' => h')) fun _ _ h' => h'))
def CompAtG (J : It) (n : Nat) (fv : List (Str × Nat)) (g : TG) (tc : TT) (te : TE) (σ : St) (H1 : Hp) (Q : VK) : Prop := ∀ p,H1 p = none → ∃ W : Nat → Nat → List V → Hp → Prop,(∃ m,W 0 m [] (upd H1 p (.lst []))) ∧ ∀ i m acc H2,W i m acc H2 →
  H2 p = some (.lst acc) ∧ acc.length < sizeLine ∧ ((J.stop i H2 ∧ Q (.ref p) H2) ∨ (J.go i H2 ∧ ∀ x H3,J.yld i H2 x H3 → ∀ τ : St,τ.length = n → g x (τ ++ fvs fv σ) H3 fun σ2 H4 => (∃ τ' : St,τ'.length = n ∧ σ2 = τ' ++ fvs fv σ) ∧
    tc σ2 H4 fun b H5 => if b = true then te σ2 H5 (fun y H6 => H6 p = some (.lst acc) ∧ ∃ m',m' < m ∧ W (i + 1) m' (acc ++ [y]) (upd H6 p (.lst (acc ++ [y])))) else ∃ m',m' < m ∧ W (i + 1) m' acc H5))
def tCompG (wi : TI) (n : Nat) (fv : List (Str × Nat)) (g : TG) (tc : TT) (te : TE) : TE := fun σ H Q => wi σ H fun J H1 => CompAtG J n fv g tc te σ H1 Q
section
variable {X : Cx} {scope : Scope} {cl : List (Str × Addr)} {xs : List Str} {fv : List (Str × Nat)} {elt iter tg : Expr} {ifs : List Expr} {pos : Pos} {te : TE} {tc : TT} {g : TG}
theorem blk_okG {pins : List (Addr × Obj)} {σ : St} {H : Hp} {s : Shared} {fp : List Addr} (C : CompM X scope cl xs fv) (I : Inv X pins σ H s) (hf : ∀ b ∈ fp,FpOk X pins H b) (ho : ∀ b ∈ fp,b < s.heap.objs.size) : (X.blk (xs ++ fv.map (·.1)) scope cl fp s H).Ok := by
  have hcl : ∀ y c,cl.lookup y = some c → X.env.cells.lookup y = some c := fun y c h => C.cells _ (lookup_mem h)
  have old : ∀ b ∈ fp,X.s₀.heap.objs.size ≤ b := fun b hb => by
    rcases (hf b hb).2.2.2.1 with z | z
    · rw [C.noex] at z
      cases z
    · exact z
  refine ⟨I.ok.mod,by show (relabel scope X.env).kind = _; exact C.kind,I.ok.glob,I.ok.blt,Nat.le_refl _,fun y z c h1 h2 => I.ok.inj y z c (hcl y c h1) (hcl z c h2),fun y hy => ?_,(fun y c h => by cases h),I.ok.hd,I.ok.frames,.inl rfl,fun b hb => ?_,fun b o e => I.bs b o e,Nat.le_trans I.ok.bsz I.sz,fun b o e hb => ?_,fun b hb hm => ?_,I.stack,I.stkFree⟩
  · have q := C.has
    rw [List.all_eq_true] at q
    have hm : ∃ k,(y,k) ∈ (relabel scope X.env).names ∧ (k = .cell ∨ k = .free) := by
      rcases hy with hy | hy
      · exact ⟨_,lookup_mem hy,.inl rfl⟩
      · exact ⟨_,lookup_mem hy,.inr rfl⟩
    obtain ⟨k,hk,hk2⟩ := hm
    have q2 := q _ hk
    have q3 : (cl.lookup y).isSome = true := by
      rcases hk2 with rfl | rfl
      · simpa using q2
      · simpa using q2
    exact Option.isSome_iff_exists.mp q3
  · obtain ⟨f0,f1,f2,f3,f4,f5⟩ := hf b hb
    refine ⟨?_,fun y c h => f4 y c (hcl y c h)⟩
    exact Nat.ne_of_lt (ho b hb)
  · have z := Heap.lt_size e
    have z2 := old b hb
    exact absurd (Nat.lt_of_lt_of_le z (Nat.le_trans I.ok.bsz z2)) (Nat.lt_irrefl _)
  · obtain ⟨f0,f1,f2,f3,f4,f5⟩ := hf b hb
    rcases List.mem_cons.mp (I.stkSub b hm) with z | z
    · exact f1 z
    · exact f2 z
theorem blk_invG {pins : List (Addr × Obj)} {σ : St} {H : Hp} {s s4 : Shared} {fp : List Addr} (C : CompM X scope cl xs fv) (I : Inv X pins σ H s) (hf : ∀ b ∈ fp,FpOk X pins H b) (ho : ∀ b ∈ fp,b < s.heap.objs.size)
    (hs : s4.os = s.os ∧ s4.gens = s.gens) (ns : s4.heap.Ns s.heap.objs.size fun _ => none) (kp : ∀ b o,s.heap.get? b = some o → s4.heap.get? b = some o) :
    Inv (X.blk (xs ++ fv.map (·.1)) scope cl fp s H) [] (List.replicate xs.length none ++ fvs fv σ) H s4 := by
  have hcl : ∀ y c,cl.lookup y = some c → X.env.cells.lookup y = some c := fun y c h => C.cells _ (lookup_mem h)
  refine ⟨blk_okG C I hf ho,hs.1,by rw [hs.2]; exact I.bare,Un.kept kp,⟨_,ns,fun i y v e1 e2 e3 => ?_⟩,fun y c h => ?_,I.hok.fresh (Nat.le_refl _),fun y c h => I.freeC y c (hcl y c h),fun p hp => by simp at hp,I.hok.kept kp,by simp [fvs]⟩
  · by_cases hi : i < xs.length
    · rw [List.getElem?_append_left (by rw [List.length_replicate]; exact hi),List.getElem?_replicate] at e2
      simp [hi] at e2
    · obtain ⟨j,rfl⟩ : ∃ j,i = xs.length + j := ⟨i - xs.length,by omega⟩
      have e1' : (fv.map (·.1))[j]? = some y := by
        have z : (xs ++ fv.map (·.1))[xs.length + j]? = some y := e1
        rw [List.getElem?_append_right (by omega)] at z
        simpa using z
      have e2' : (fvs fv σ)[j]? = some (some v) := by
        rw [List.getElem?_append_right (by rw [List.length_replicate]; omega),List.length_replicate] at e2
        simpa using e2
      rw [List.getElem?_map] at e1'
      unfold fvs at e2'
      rw [List.getElem?_map] at e2'
      cases hq : fv[j]? with
      | none =>
        rw [hq] at e1'
        cases e1'
      | some q =>
        rw [hq] at e1' e2'
        have ey : q.1 = y := Option.some.inj e1'
        have ev : (σ[q.2]?).join = some v := Option.some.inj e2'
        have hm : q ∈ fv := List.mem_of_getElem? hq
        obtain ⟨s1,s2,s3,s4',s5⟩ := C.slot q hm
        have ev2 : σ[q.2]? = some (some v) := by
          cases hz : σ[q.2]? with
          | none =>
            rw [hz] at ev
            cases ev
          | some z =>
            rw [hz] at ev
            have ev' : z = some v := ev
            rw [ev']
        obtain ⟨m,hn,hl⟩ := I.loc
        obtain ⟨u,r,lk⟩ := hl q.2 q.1 v s1 ev2 s3
        obtain ⟨c,hc⟩ := Option.isSome_iff_exists.mp s4'
        refine ⟨u,r,.inr ⟨.inl (by rw [← ey]; exact s5),c,by rw [← ey]; exact hc,?_⟩⟩
        rcases lk with ⟨k,_⟩ | ⟨_,c',hc',z⟩
        · rw [s2] at k
          cases k
        · rw [hcl _ _ hc] at hc'
          cases hc'
          obtain ⟨o,ho',hd⟩ := z
          exact ⟨o,kp _ _ ho',hd⟩
  · obtain ⟨v,o,ho',hd⟩ := I.cell y c (hcl y c h)
    exact ⟨v,o,kp _ _ ho',hd⟩
theorem blk_runG {pins : List (Addr × Obj)} {σ : St} {H2 : Hp} {s2 : Shared} {it : Addr} {fp : List Addr} {tn : Nat → Heap → Prop} {J : It} {RR : Value → Addr → Result → Shared → Prop} {E : Value → Shared → Prop} {Qf : V → Hp → Prop}
    (hcalm : X.calm = true) (C : CompM X scope cl xs fv) (I2 : Inv X pins σ H2 s2) (T : Turn X.prog X.w X.K tg J fp it tn) (st : tn 0 s2.heap) (f2 : ∀ b ∈ fp,FpOk X pins H2 b)
    (rd : CompAtG J xs.length fv g tc te σ H2 Qf)
    (hg : ∀ (s₀ : Shared) (H₀ : Hp),PG (X.blk (xs ++ fv.map (·.1)) scope cl fp s₀ H₀) tg g) (ht : ∀ (s₀ : Shared) (H₀ : Hp),PTs (X.blk (xs ++ fv.map (·.1)) scope cl fp s₀ H₀) ifs tc)
    (he : ∀ (s₀ : Shared) (H₀ : Hp),PE (X.blk (xs ++ fv.map (·.1)) scope cl fp s₀ H₀) elt te)
    (hRR : ∀ (p C : Addr) (H' : Hp) (s' : Shared),(∃ m,s'.heap.Ns C m) → C ≠ X.env.locals → H' C = none → X.s₀.heap.objs.size ≤ C → (∀ y c,X.env.cells.lookup y = some c → c ≠ C) → (∀ q ∈ X.pn ++ pins,q.1 ≠ C) → Inv X pins σ H' s' → Qf (.ref p) H' → RR (.ref p) C (.ok .next) s') :
    wpAny (model X.prog X.w) X.A (newList []) (fun acc s₃ => wpAny (model X.prog X.w) X.A (newFunctionEnv scope X.env.globals cl [] X.env.qual none .none (some X.env)) (fun cenv s₄ =>
      codeAny (model X.prog X.w) X.A (.compStart (.ListComp elt [⟨tg,iter,ifs,0⟩] scope pos) 0 (.ref it) acc { cenv with scope := relabel scope X.env }) (RR acc cenv.locals) s₄) E s₃) E s2 := by
  refine wpAny_newObj_type ?_
  have hfresh := I2.fresh
  have I3 : Inv X pins σ (upd H2 s2.heap.objs.size (.lst [])) { s2 with heap := s2.heap.push { cls := .type "list",data := .seq ([] : List Value).toArray } } :=
    I2.laid (t' := s2.toks) (fun b u q => Heap.get?_push_of_some _ q) (Nat.le_refl _) ⟨Nat.zero_le _,[],0,.nil,Heap.get?_push_size _ rfl⟩
  generalize hs3 : ({ s2 with heap := s2.heap.push { cls := .type "list",data := .seq ([] : List Value).toArray } } : Shared) = s3 at I3 ⊢
  have hp3 : s2.heap.objs.size < s3.heap.objs.size := by rw [← hs3]; exact Nat.lt_of_lt_of_le (Nat.lt_succ_self _) (Nat.le_of_eq (Heap.size_push _ _).symm)
  have k23 : ∀ b o,s2.heap.get? b = some o → s3.heap.get? b = some o := fun b o e => by rw [← hs3]; exact Heap.get?_push_of_some _ e
  have fpo : ∀ b ∈ fp,b < s2.heap.objs.size := fun b hb => by
    obtain ⟨o,e,_⟩ := T.obj 0 _ st b hb
    exact Heap.lt_size e
  have f3 : ∀ b ∈ fp,FpOk X pins (upd H2 s2.heap.objs.size (.lst [])) b := fun b hb => ⟨by rw [upd_ne (Nat.ne_of_lt (fpo b hb))]; exact (f2 b hb).1,(f2 b hb).2⟩
  refine wpAny_newFunctionEnv C.cell (by intro y hy; simp at hy) (fun h1 hns1 hsb1 => ?_) C.kind
  have kp : ∀ b o,s3.heap.get? b = some o → h1.get? b = some o := fun b o e => (hsb1.2 b (Nat.ne_of_lt (Heap.lt_size e))).trans (Heap.get?_push_of_some _ e)
  have I4 := blk_invG (s4 := { s3 with heap := h1,toks := s3.toks + ([] : List (Str × Value)).length }) C I3 f3 (fun b hb => Nat.lt_trans (fpo b hb) hp3) ⟨rfl,rfl⟩ hns1 kp
  have st4 : tn 0 h1 := T.keep 0 _ _ st fun b _ o e => kp b o (k23 b o e)
  obtain ⟨W,⟨m0,w0⟩,step⟩ := rd _ hfresh
  have loop : codeAny (model X.prog X.w) X.A (.compLoop (.ListComp elt [⟨tg,iter,ifs,0⟩] scope pos) 0 (.ref it) (.ref s2.heap.objs.size) (compEnvC scope cl s3.heap.objs.size X.env)) (RR (.ref s2.heap.objs.size) s3.heap.objs.size)
      { s3 with heap := h1,toks := s3.toks + ([] : List (Str × Value)).length } := by
    refine compLoop_go (fun n s => ∃ i acc τ H',τ.length = xs.length ∧ Inv (X.blk (xs ++ fv.map (·.1)) scope cl fp s3 (upd H2 s2.heap.objs.size (.lst []))) [] (τ ++ fvs fv σ) H' s ∧ tn i s.heap ∧ (∀ b ∈ fp,H' b = none) ∧ W i n acc H') ?_ m0 ⟨0,[],List.replicate xs.length none,_,List.length_replicate,I4,st4,fun b hb => (f3 b hb).1,w0⟩
    rintro n s ⟨i,acc,τ,H',hτ,I',st',fr',w'⟩
    obtain ⟨hp,hlen,alt⟩ := step i n acc H' w'
    have fpk : ∀ {H5 : Hp},(∀ b ∈ fp,H5 b = none) → ∀ b ∈ fp,FpOk (X.blk (xs ++ fv.map (·.1)) scope cl fp s3 (upd H2 s2.heap.objs.size (.lst []))) [] H5 b := fun h5 b hb =>
      ⟨h5 b hb,(I'.ok.exf b hb).1,I'.ok.exfs b hb,.inl hb,fun y c e => (I'.ok.exf b hb).2 y c e,fun q hq => by simp at hq⟩
    rcases alt with ⟨stop,qf⟩ | ⟨go,turn⟩
    · refine wpAny_mono (T.done (X.blk (xs ++ fv.map (·.1)) scope cl fp s3 (upd H2 s2.heap.objs.size (.lst []))) rfl rfl rfl hcalm i [] s _ H' (fun _ _ => False) I' (fpk fr') st' stop) (fun r s5 ⟨hr,I5⟩ => ?_) fun _ _ z => False.elim z
      subst hr
      refine hRR _ _ H' s5 (let ⟨m,hn,_⟩ := I5.loc; ⟨m,hn⟩) (Nat.ne_of_gt I3.lt) I5.free I3.sz (fun y c e => ?_) (fun q hq => ?_) ?_ qf
      · obtain ⟨v,z⟩ := I3.cell y c e
        exact Nat.ne_of_lt z.lt
      · exact Nat.ne_of_lt (Heap.lt_size (I3.pin q hq).1)
      · exact I3.call' (s' := s5) (ch := fp) I5.os I5.base I5.hok I5.bare fun b hb => ⟨(f2 b hb).2.2.2.1,(f2 b hb).2.1,(f2 b hb).2.2.2.2.1,(f2 b hb).2.2.2.2.2⟩
    · refine wpAny_mono (T.item (X.blk (xs ++ fv.map (·.1)) scope cl fp s3 (upd H2 s2.heap.objs.size (.lst []))) rfl rfl rfl hcalm i [] s _ H' (fun _ _ => False) I' (fpk fr') st' go) (fun r s5 ⟨u,hr,h5⟩ => ?_) fun _ _ z => False.elim z
      subst hr
      refine wpAny_mono h5 (fun _ s6 ⟨y,H6,I6,r6,y6,st6,fr6⟩ => ?_) fun _ _ z => False.elim z
      have I6' := I6.pinned (fpk fr6) (T.obj _ _ st6)
      have rt := turn y _ y6 τ hτ
      refine wpAny_mono (hg s3 _ _ s6 _ H6 y u _ I6' r6 rt) (fun _ s7 ⟨σ7,H7,I7,⟨τ',hτ',e7⟩,q7⟩ => ?_) fun _ _ z => False.elim z
      subst e7
      refine wpAny_mono (ht s3 _ _ s7 _ _ _ I7 q7) (fun b s7b ⟨H7b,I7b,q7b⟩ => ?_) fun _ _ z => False.elim z
      have kp6 : ∀ {σ9 : St} {H9 : Hp} {s9 : Shared},Inv (X.blk (xs ++ fv.map (·.1)) scope cl fp s3 (upd H2 s2.heap.objs.size (.lst []))) ([] ++ pinsAt fp s6.heap) σ9 H9 s9 → tn (i + 1) s9.heap ∧ ∀ b ∈ fp,H9 b = none := fun {σ9 H9 s9} I9 => by
        refine ⟨T.keep _ _ _ st6 fun b hb o e => (I9.pin (b,o) (List.mem_append_right _ (List.mem_append_right _ (mem_pinsAt hb e)))).1,fun b hb => ?_⟩
        obtain ⟨o,e,d⟩ := T.obj _ _ st6 b hb
        exact (I9.pin (b,o) (List.mem_append_right _ (List.mem_append_right _ (mem_pinsAt hb e)))).2.1
      cases b with
      | false =>
        obtain ⟨m',hm',w8⟩ := q7b
        exact ⟨m',hm',i + 1,acc,τ',_,hτ',I7b.unpinned,(kp6 I7b).1,(kp6 I7b).2,w8⟩
      | true =>
        refine wpAny_mono (he s3 _ _ s7b _ _ _ I7b q7b) (fun v8 s8 ⟨y8,H8,I8,r8,q8,m',hm',w8⟩ => ?_) fun _ _ z => False.elim z
        refine wpAny_mono (mt_append (X := X.blk (xs ++ fv.map (·.1)) scope cl fp s3 (upd H2 s2.heap.objs.size (.lst []))) _ s8 _ H8 (.ref s2.heap.objs.size) [y8] (.ref s2.heap.objs.size) [v8] (fun _ H9 => H9 = upd H8 s2.heap.objs.size (.lst (acc ++ [y8]))) I8 rfl (.cons r8 .nil) ⟨_,acc,y8,rfl,rfl,q8,hlen,rfl⟩) (fun _ s9 ⟨_,H9,I9,_,e9⟩ => ?_) fun _ _ z => False.elim z
        subst e9
        exact ⟨m',hm',i + 1,acc ++ [y8],τ',_,hτ',I9.unpinned,(kp6 I9).1,(kp6 I9).2,w8⟩
  exact codeAny_compStart_list loop (T.self _ 0 _ _ _ st4 loop)
theorem pe_compG {wi : TI} (hcalm : X.calm = true) (C : CompM X scope cl xs fv) (hi : PI X tg iter wi) (hg : ∀ (fp : List Addr) (s₀ : Shared) (H₀ : Hp),PG (X.blk (xs ++ fv.map (·.1)) scope cl fp s₀ H₀) tg g) (ht : ∀ (fp : List Addr) (s₀ : Shared) (H₀ : Hp),PTs (X.blk (xs ++ fv.map (·.1)) scope cl fp s₀ H₀) ifs tc) (he : ∀ (fp : List Addr) (s₀ : Shared) (H₀ : Hp),PE (X.blk (xs ++ fv.map (·.1)) scope cl fp s₀ H₀) elt te)
    (hs : ∀ v,foldedSetIterable iter X.env v = pure v := by intro _; rfl) : PE X (.ListComp elt [⟨tg,iter,ifs,0⟩] scope pos) (tCompG wi xs.length fv g tc te) := by
  intro pins s σ H Q I h
  rw [eval_ListComp]
  refine wpAny_comprehension_free (use := none) rfl hs C.clos C.kind C.names (wpAny_mono (hi pins s σ H _ I h) (fun v s1 h1 => wpAny_mono h1 (fun itv s2 h2 => ?_) fun _ _ z => z) fun _ _ z => z)
  obtain ⟨it,fp,tn,J,H2,rfl,I2,T,st2,f2,rd⟩ := h2
  refine blk_runG (Qf := Q) hcalm C I2 T st2 f2 rd (hg fp) (ht fp) (he fp) fun p D H' s' ns nL nH n0 nC nP I8 q => ?_
  obtain ⟨m,hn⟩ := ns
  exact ⟨m,hn,fun h'' sb => ⟨.ref p,H',I8.turned (t' := s'.toks) (fun b o hb e => (sb.2 b hb).trans e) nH nL (.inr n0) nC nP,rfl,q⟩⟩
end
theorem compG_R {J : It} {n k : Nat} {fv : List (Str × Nat)} {g : TG} {te : TE} {σ : St} {H1 : Hp} {Q : VK} (hlen : n < 1000) (R : Nat → V → Hp → Prop) (hR : ∀ i v H H',SameT H H' → R i v H → R i v H')
    (hst : ∀ H2,Same H1 H2 → J.stop n H2) (hgo : ∀ i H2,i < n → Same H1 H2 → J.go i H2)
    (hs : ∀ i x H2 H3 (τ : St) (Kc : VK),i < n → Same H1 H2 → J.yld i H2 x H3 → τ.length = k → (∀ y H4,Same H2 H4 → R i y H4 → Kc y H4) → g x (τ ++ fvs fv σ) H3 fun σ2 H4 => (∃ τ' : St,τ'.length = k ∧ σ2 = τ' ++ fvs fv σ) ∧ te σ2 H4 Kc)
    (hd : ∀ l ys H',H1 l = none → Same H1 H' → H' l = some (.lst ys) → ys.length = n → (∀ i y,ys[i]? = some y → R i y H') → Q (.ref l) H') :
    CompAtG J k fv g tYes te σ H1 Q := by
  intro l hl
  refine ⟨fun i m acc H2 => m = n - i ∧ i ≤ n ∧ acc.length = i ∧ Same H1 H2 ∧ H2 l = some (.lst acc) ∧ ∀ j y,acc[j]? = some y → R j y H2,⟨n,rfl,Nat.zero_le _,rfl,Same.new hl,upd_same,fun j y h => by simp at h⟩,?_⟩
  rintro i m acc H2 ⟨rfl,hi,e1,sm,e3,hr⟩
  refine ⟨e3,small1000 (by omega),?_⟩
  by_cases hlt : i < n
  · refine .inr ⟨hgo i H2 hlt sm,fun x H3 y τ hτ => ?_⟩
    refine hs i x H2 H3 τ _ hlt sm y hτ fun y H4 s4 ry => ⟨s4 _ _ e3,n - (i + 1),by omega,rfl,hlt,by simp [e1],(sm.trans s4).upd hl,upd_same,fun j z hz => ?_⟩
    have t4 := SameT.upd (ys := acc ++ [y]) (s4 _ _ e3)
    rcases Nat.lt_trichotomy j acc.length with h | h | h
    · rw [List.getElem?_append_left h] at hz
      exact hR _ _ _ _ (s4.t.trans t4) (hr j z hz)
    · subst h
      rw [List.getElem?_append_right (Nat.le_refl _),Nat.sub_self] at hz
      cases hz
      rw [e1]
      exact hR _ _ _ _ t4 ry
    · rw [List.getElem?_eq_none (by simp; omega)] at hz
      cases hz
  · have e : i = n := by omega
    subst e
    exact .inl ⟨hst H2 sm,hd l acc H2 hl sm e3 e1 hr⟩
theorem comp_zipR {K : PySem.W.Frag} {a b : Addr} {xs ys : List V} {fv : List (Str × Nat)} {te : TE} {σ : St} {H1 : Hp} {Q : VK} {g : TG} {k : Nat} (q1 : SqL K H1 a xs) (q2 : SqL K H1 b ys) (hlen : min xs.length ys.length < 1000) (R : Nat → V → Hp → Prop) (hR : ∀ i v H H',SameT H H' → R i v H → R i v H')
    (hs : ∀ i x y p H2 (τ : St) (Kc : VK),xs[i]? = some x → ys[i]? = some y → Same H1 H2 → H2 p = some (.tup [x,y]) → τ.length = k → (∀ y H4,Same H2 H4 → R i y H4 → Kc y H4) → g (.ref p) (τ ++ fvs fv σ) H2 fun σ2 H4 => (∃ τ' : St,τ'.length = k ∧ σ2 = τ' ++ fvs fv σ) ∧ te σ2 H4 Kc)
    (hd : ∀ l zs H',H1 l = none → Same H1 H' → H' l = some (.lst zs) → zs.length = min xs.length ys.length → (∀ i y,zs[i]? = some y → R i y H') → Q (.ref l) H') :
    CompAtG (Itz K a b) k fv g tYes te σ H1 Q := by
  refine compG_R (n := min xs.length ys.length) hlen R hR (fun H2 s2 => ⟨xs,ys,s2.seq q1,s2.seq q2,rfl⟩) (fun i H2 hi s2 => ⟨xs,ys,xs[i],ys[i],s2.seq q1,s2.seq q2,by simp [show i < xs.length by omega],by simp [show i < ys.length by omega]⟩) ?_ hd
  intro i x H2 H3 τ Kc hi s2 y hτ kk
  obtain ⟨p,u,v,rfl,np,rfl,e⟩ := y
  obtain ⟨e1,e2⟩ := e xs ys (s2.seq q1) (s2.seq q2)
  have s3 : Same H2 (upd H2 p (.tup [u,v])) := Same.new np
  exact hs i u v p _ τ Kc e1 e2 (s2.trans s3) upd_same hτ fun y H4 s4 r => kk y H4 (s3.trans s4) r
theorem comp_listG {K : PySem.W.Frag} {a : Addr} {xs : List V} {fv : List (Str × Nat)} {te : TE} {σ : St} {H1 : Hp} {Q : VK} {g : TG} {k : Nat} (q1 : SqL K H1 a xs) (hlen : xs.length < 1000) (R : Nat → V → Hp → Prop) (hR : ∀ i v H H',SameT H H' → R i v H → R i v H')
    (hs : ∀ i x H2 (τ : St) (Kc : VK),xs[i]? = some x → Same H1 H2 → τ.length = k → (∀ y H4,Same H2 H4 → R i y H4 → Kc y H4) → g x (τ ++ fvs fv σ) H2 fun σ2 H4 => (∃ τ' : St,τ'.length = k ∧ σ2 = τ' ++ fvs fv σ) ∧ te σ2 H4 Kc)
    (hd : ∀ l zs H',H1 l = none → Same H1 H' → H' l = some (.lst zs) → zs.length = xs.length → (∀ i y,zs[i]? = some y → R i y H') → Q (.ref l) H') :
    CompAtG (Itl K a) k fv g tYes te σ H1 Q := by
  refine compG_R (n := xs.length) hlen R hR (fun H2 s2 => ⟨xs,s2.seq q1,Nat.le_refl _⟩) (fun i H2 hi s2 => ⟨xs,xs[i],s2.seq q1,by simp [hi]⟩) ?_ hd
  intro i x H2 H3 τ Kc hi s2 y hτ kk
  obtain ⟨rfl,e⟩ := y
  exact hs i x _ τ Kc (e xs (s2.seq q1)) s2 hτ kk
end L2
namespace L2
open PySem PySem.Spec PyProof.Rows
end L2
namespace Dr
open PySem PySem.Spec L2 Mth Sp1 Sp2 Sp3 Sp7
def Pot (H : Hp) (p : Addr) (k : Int) : Prop := ∃ a b c : Int,H p = some (.lst [.int a,.int b,.int c]) ∧ 0 ≤ b ∧ b ≤ k ∧ 0 ≤ c ∧ c < 2147483647
def But (p : Addr) (H H' : Hp) : Prop := ∀ b o,b ≠ p → H b = some o → H' b = some o
theorem But.refl {p : Addr} {H : Hp} : But p H H := fun _ _ _ e => e
theorem But.trans {p : Addr} {H H1 H2 : Hp} (a : But p H H1) (b : But p H1 H2) : But p H H2 := fun c o n e => b c o n (a c o n e)
theorem But.of {p : Addr} {H H' : Hp} (s : Same H H') : But p H H' := fun c o _ e => s c o e
theorem But.same {p : Addr} {H0 H H' : Hp} (b : But p H H') (s : Same H0 H) (h : H0 p = none) : Same H0 H' := fun c o e => b c o (ne_of_none e h) (s c o e)
theorem Pot.mono {H : Hp} {p : Addr} {k k' : Int} (h : Pot H p k) (hk : k ≤ k') : Pot H p k' := by
  obtain ⟨a,b,c,e,h0,h1,h2,h3⟩ := h
  exact ⟨a,b,c,e,h0,by omega,h2,h3⟩
theorem Pot.same {H H' : Hp} {p : Addr} {k : Int} (h : Pot H p k) (s : Same H H') : Pot H' p k := by
  obtain ⟨a,b,c,e,h0⟩ := h
  exact ⟨a,b,c,s _ _ e,h0⟩
theorem But.t {p : Addr} {H H' : Hp} {k : Int} (b : But p H H') (h : Pot H p k) : SameT H H' := fun c xs e => by
  obtain ⟨x,y,z,ep,_⟩ := h
  exact b c _ (ne_of e ep (by intro z; cases z)) e
theorem Pot.ne {H : Hp} {p l : Addr} {k : Int} (h : Pot H p k) (hl : H l = none) : l ≠ p := fun z => by
  obtain ⟨x,y,w,ep,_⟩ := h
  subst z
  rw [hl] at ep
  cases ep
theorem But.none {p l : Addr} {H H' : Hp} (b : But p H H') (n : l ≠ p) (h : H' l = none) : H l = none := by
  cases e : H l with
  | none => rfl
  | some o =>
    rw [b l o n e] at h
    cases h
inductive spCell (K : PySem.W.Frag) (vs : List V) (H : Hp) (Q : VK) (x_3 : XK) : Prop
  | mk : ∀ (sa : Addr) (ss : List Int) (k : Int),(vs = [.ref sa,.int k]) → (SqL K H sa (ss.map V.int)) → (0 ≤ k) → (∀ c : Int,Q (.int c) H) → spCell K vs H Q x_3
inductive spBegun (vs : List V) (H : Hp) (Q : VK) (x_3 : XK) : Prop
  | mk : ∀ c : Int,(vs = [.int c]) → (∀ (p : Addr) (H' : Hp),Same H H' → H p = none → Pot H' p 0 → Q (.ref p) H') → spBegun vs H Q x_3
inductive spTk (vs : List V) (H : Hp) (Q : VK) (x_3 : XK) : Prop
  | mk : ∀ (p : Addr) (m k : Int),(vs = [.ref p,.int m]) → (Pot H p k) → (k ≤ 1000000) → ((0 < m ∧ bits m ≤ 8000)) → (∀ (r : Int) (H' : Hp),0 ≤ r → r < m → But p H H' → Pot H' p (k + 1) → Q (.int r) H') → spTk vs H Q x_3
inductive spWd (vs : List V) (H : Hp) (Q : VK) (x_3 : XK) : Prop
  | mk : ∀ (p : Addr) (m k : Int),(vs = [.ref p,.int m]) → (Pot H p k) → (k ≤ 900000) → ((0 < m ∧ bits m ≤ 8000)) → (∀ (r : Int) (H' : Hp),0 ≤ r → r < m → But p H H' → Pot H' p (k + 4) → Q (.int r) H') → spWd vs H Q x_3
inductive spDLine (vs : List V) (H : Hp) (Q : VK) (x_3 : XK) : Prop
  | mk : ∀ (p : Addr) (k : Int),(vs = [.ref p]) → (Pot H p k) → (k ≤ 800000) → (∀ (l : Addr) (qs : Crn) (H' : Hp),LineM H' l qs → 1 ≤ qs.length → qs.length ≤ 10 → H l = none → But p H H' → Pot H' p (k + 100) → Q (.ref l) H') → spDLine vs H Q x_3
inductive spMoved (vs : List V) (H : Hp) (Q : VK) (x_3 : XK) : Prop
  | mk : ∀ (p : Addr) (n k : Int),(vs = [.ref p,.int n]) → (Pot H p k) → (k ≤ 900000) → (∀ (r : Int) (H' : Hp),Sm r → But p H H' → Pot H' p (k + 1) → Q (.int r) H') → spMoved vs H Q x_3
inductive spOther (vs : List V) (H : Hp) (Q : VK) (x_3 : XK) : Prop
  | mk : ∀ (p l : Addr) (qs : Crn) (k : Int),(vs = [.ref p,.ref l]) → (Pot H p k) → (k ≤ 700000) → (LineM H l qs) → ((1 ≤ qs.length ∧ qs.length ≤ 10)) → (∀ (r : Addr) (rs : Crn) (H' : Hp),LineM H' r rs → 1 ≤ rs.length → rs.length ≤ 10 → H r = none → But p H H' → Q (.ref r) H') → spOther vs H Q x_3
inductive spLines (K : PySem.W.Frag) (vs : List V) (H : Hp) (Q : VK) (x_3 : XK) : Prop
  | mk : ∀ (sa : Addr) (ss : List Int),(vs = [.ref sa]) → (SqL K H sa (ss.map V.int)) → (∀ (t l r : Addr) (qs rs : Crn) (H' : Hp),Same H H' → H' t = some (.tup [.ref l,.ref r]) → LineM H' l qs → (1 ≤ qs.length ∧ qs.length ≤ 10) → LineM H' r rs → (1 ≤ rs.length ∧ rs.length ≤ 10) → H l = none → H r = none → l ≠ r → Q (.ref t) H') → spLines K vs H Q x_3
theorem _root_.Sp7.LineM.but {p l : Addr} {H H' : Hp} {qs : Crn} {k : Int} (L : LineM H l qs) (b : But p H H') (h : Pot H p k) (n : l ≠ p) : LineM H' l qs := ⟨b l _ n L.lst,fun q hq => ⟨b.t h _ _ (L.crn q hq).1,(L.crn q hq).2⟩⟩
end Dr
namespace Dr
open PySem PySem.Spec L2 Mth Sp1 Sp2 Sp3 Sp7
theorem ixN_of {n : Nat} {i : Int} (h0 : 0 ≤ i) (h1 : i < (n : Int)) : ixN n i = some i.toNat := by
  unfold ixN
  rw [if_pos h0,if_pos h1]
theorem menuI {K : PySem.W.Frag} {H : Hp} {l : Addr} {xs : List V} {i : Int} {Q : VK} (C : Int → Prop) (e : H l = some (.lst xs)) (h0 : 0 ≤ i) (h1 : i < (xs.length : Int)) (hC : ∀ v ∈ xs,∃ m,v = .int m ∧ C m) (h : ∀ m,C m → Q (.int m) H) : rIxL K (.ref l) (.int i) H Q :=
  menu e h0 h1 fun v hv => by
    obtain ⟨m,rfl,hc⟩ := hC v hv
    exact h m hc
theorem at_crn {qs : Crn} {k : Int} (h0 : 0 ≤ k) (h1 : k < (qs.length : Int)) : ∃ q,qs[k.toNat]? = some q ∧ atI (qs.map fun (q : Addr × Int × Int) => V.ref q.1) k = some (.ref q.1) := by
  have hk : k.toNat < qs.length := by omega
  refine ⟨qs[k.toNat],List.getElem?_eq_getElem hk,?_⟩
  have := atI_nat (xs := qs.map fun (q : Addr × Int × Int) => V.ref q.1) (j := k.toNat) (v := .ref qs[k.toNat].1) (by rw [List.getElem?_map,List.getElem?_eq_getElem hk]; rfl)
  rw [show ((k.toNat : Nat) : Int) = k by omega] at this
  exact this
def ifBody (s : Stmt) : Stmt := match s with
  | .If _ (b :: _) _ _ => b
  | _ => .Pass ⟨0,0,0,0⟩
def retExpr (s : Stmt) : Expr := match s with
  | .Return (some e) _ => e
  | .Assign _ e _ => e
  | .If e _ _ _ => e
  | _ => .Name "" ⟨0,0,0,0⟩
end Dr
namespace Dr
open PySem
def compScope (e : Expr) : Scope := match e with
  | .ListComp _ _ sc _ => sc
  | .Call _ [.ListComp _ _ sc _] _ _ => sc
  | _ => { kind := .function,names := [],isGenerator := false,isCoroutine := false }
end Dr
namespace PySem
namespace F
theorem lri_no_len : typeLookup (.type "list_reverseiterator") (Str.ofString "__len__") = pure none := by rw [typeLookup_type,builtinLookup_eq_fast]; kernel_rfl
theorem lri_hint : typeLookup (.type "list_reverseiterator") (Str.ofString "__length_hint__") = pure (some (.builtin "list_reverseiterator.__length_hint__")) := by rw [typeLookup_type,builtinLookup_eq_fast]; kernel_rfl
end F
section
variable {prog : Program} {w : World} {A : Around} {E : Value → Shared → Prop} {s : Shared}
theorem wpAny_hint_rev {it : Addr} {Q : Bool → Shared → Prop} (hT : s.TypeIs (.ref it) "list_reverseiterator") (h : Q false s) : wpAny (model prog w) A (Builtin.List.listLengthHint (.ref it)) Q E s := by
  unfold Builtin.List.listLengthHint
  refine wpAny_bind (wpAny_specialOf hT F.lri_no_len ?_)
  show wpAny _ A (specialOf (Value.ref it) (Str.ofString "__length_hint__") >>= _) _ _ _
  refine wpAny_bind (wpAny_specialOf hT F.lri_hint ?_)
  generalize hid : ("list_reverseiterator.__length_hint__" : String) = id0
  wp_delta
  rw [show splitId id0 = some ("list_reverseiterator","__length_hint__") from by subst hid; decide +kernel]
  subst hid
  refine wpAny_bind (wpAny_isInstance (T := "list_reverseiterator") (b := true) hT (by rw [isSubtype_type]; kernel_rfl) ?_)
  refine wpAny_ite_split (fun hab => absurd hab (by decide)) (fun _ => ?_)
  refine wpAny_ite_split (fun _ => ?_) (fun hab => absurd (by decide +kernel) hab)
  refine wpAny_ite_split (fun hab => absurd hab (by decide +kernel)) (fun _ => ?_)
  exact wpAny_pure h
theorem wpAny_extend_rev {R : Result → Shared → Prop} {it l : Addr} {items : Array Value} (hh : A.handled = none) (hit : s.heap.IsRevIter it l ((items.size : Int) - 1)) (hl : s.heap.IsList l items) (hne : l ≠ it) (hn : items.size ≤ sizeLine) (S : Addr) (res : Value) (c₀ : Nat) (hSi : S ≠ it) (hSl : S ≠ l)
    (hS : s.heap.get? S = some { cls := .type "list",data := .seq #[] c₀ })
    (hR : ∀ h' tk acc' c',(∀ b o,b ≠ S → b ≠ it → s.heap.get? b = some o → h'.get? b = some o) → h'.get? S = some { cls := .type "list",dict := none,data := .seq acc' c',slots := #[] } →
      ItemsOf (fun i v => items[items.size - 1 - i]? = some v) acc' items.size → R (.ok (.ret res)) { s with heap := h',toks := tk }) :
    wpAny (model prog w) A.in1 (Builtin.List.listExtendWith (.ref S) (.ref it) res)
      (fun fin s' => match fin with | .done f => R (.ok f) s' | .again c' => c'.quiet = true ∧ codeAny (model prog w) A c' R s') (fun e s' => R (.error e) s') s := by
  have W := (Walks.listRev (prog := prog) (w := w) (A := A.in1) hh it l hne items).toS
  have hSf : S ∉ [it,l] := fun hm => by
    simp only [List.mem_cons,List.not_mem_nil,or_false] at hm
    rcases hm with e | e
    · exact hSi e
    · exact hSl e
  unfold Builtin.List.listExtendWith
  refine wpAny_bind (wpAny_typeOf hit.typeIs ?_)
  have h1 : Builtin.List.listSameRef (.ref S) (.ref it) = false := by simp [Builtin.List.listSameRef,hSi]
  have h2 : (Value.type "list_reverseiterator" == Value.type "list") = false := by decide
  have h3 : (Value.type "list_reverseiterator" == Value.type "tuple") = false := by decide
  simp only [h1,h2,h3,Bool.or_false,Bool.false_eq_true,if_false]
  refine wpAny_bind (wpAny_pyIter_revIter hit ?_)
  refine wpAny_bind (wpAny_holding (wpAny_hint_rev hit.typeIs ?_))
  refine wpAny_ite_split (fun hab => absurd hab (by decide +kernel)) (fun _ => ?_)
  refine wpAny_pure ⟨plainId_quiet F.plain_extend_loop _,codeAny_extend_loopS W hn S hSf res items.size 0 s #[] c₀ rfl (Nat.zero_le _) ⟨Nat.zero_le _,by simpa using hit,hl⟩ hS (ItemsOf.nil _) fun s' acc' c' hm hS' hacc => ?_⟩
  rw [Moved.eq_with hm]
  refine hR s'.heap s'.toks acc' c' (fun b o hb hi e => hm.heap b o (fun hmem => ?_) e) hS' hacc
  rcases List.mem_cons.mp hmem with e' | hmem
  · exact hb e'
  · exact hi (List.mem_singleton.mp hmem)
theorem call_list_rev {Q : Value → Shared → Prop} {it l : Addr} {items : Array Value} (hh : A.handled = none) (hit : s.heap.IsRevIter it l ((items.size : Int) - 1)) (hl : s.heap.IsList l items) (hne : l ≠ it) (hn : items.size ≤ sizeLine)
    (hQ : ∀ h' tk acc' c',(∀ b o,b ≠ it → s.heap.get? b = some o → h'.get? b = some o) →
      h'.get? s.heap.objs.size = some { cls := .type "list",dict := none,data := .seq acc' c',slots := #[] } → ItemsOf (fun i v => items[items.size - 1 - i]? = some v) acc' items.size → Q (.ref s.heap.objs.size) { s with heap := h',toks := tk }) :
    wpAny (model prog w) A (call (.type "list") [.ref it]) Q E s := by
  obtain ⟨oi,hoi,_⟩ := id hit
  obtain ⟨ol,hol,_⟩ := id hl
  have hi := Heap.lt_size hoi
  have hll := Heap.lt_size hol
  refine callType_codes (Q₁ := fun obj s₁ => obj = .ref s.heap.objs.size ∧ s₁ = { s with heap := s.heap.push { cls := .type "list",data := .seq #[] } }) F.called_list (F.typeCall_list_1 _) F.entry_list_init
    (code_list_new _ ⟨rfl,rfl⟩) fun obj s₁ h₁ => ?_
  obtain ⟨rfl,rfl⟩ := h₁
  have hS : (s.heap.push { cls := .type "list",data := .seq #[] }).get? s.heap.objs.size = some { cls := .type "list",data := .seq #[] } := Heap.get?_push_size _ rfl
  refine ⟨⟨_,hS,rfl⟩,F.args_list_init_2 _ _,?_⟩
  show wpAny _ _ (do let old ← Builtin.List.listItems (.ref s.heap.objs.size); Builtin.List.listUpdate (.ref s.heap.objs.size) (fun _ => #[]); letGo old.toList.reverse; Builtin.List.listExtendWith (.ref s.heap.objs.size) (.ref it) .none) _ _ _
  refine wpAny_bind ?_
  unfold Builtin.List.listItems
  refine wpAny_bind (wpAny_seqItems hS rfl (wpAny_pure ?_))
  show wpAny _ _ (updateSeq s.heap.objs.size (fun _ => #[]) >>= fun _ => letGo (#[] : Array Value).toList.reverse >>= fun _ => Builtin.List.listExtendWith (.ref s.heap.objs.size) (.ref it) .none) _ _ _
  refine wpAny_bind (wpAny_updateSeq hS rfl ?_)
  have hS₂ := Heap.get?_update_self (Obj.mapSeq (fun _ => (#[] : Array Value))) hS rfl
  have oth : ∀ b o,b ≠ s.heap.objs.size → s.heap.get? b = some o → ((s.heap.push { cls := .type "list",data := .seq #[] }).update s.heap.objs.size (Obj.mapSeq (fun _ => (#[] : Array Value)))).get? b = some o :=
    fun b o hb e => (Heap.get?_update_other _ _ (Ne.symm hb)).trans (Heap.get?_push_of_some _ e)
  refine wpAny_bind (wpAny_letGo ?_)
  refine wpAny_extend_rev (A := A.in1) hh (hit.at fun o e => oth it o (Nat.ne_of_lt hi) e) (hl.at fun o e => oth l o (Nat.ne_of_lt hll) e) hne hn _ .none _ (Nat.ne_of_gt hi) (Nat.ne_of_gt hll) hS₂ fun h' tk acc' c' hk hS' hacc => ?_
  exact ⟨rfl,hQ h' tk acc' c' (fun b o hb e => hk b o (Nat.ne_of_lt (Heap.lt_size e)) hb (oth b o (Nat.ne_of_lt (Heap.lt_size e)) e)) hS' hacc⟩
end
end PySem
namespace L2
open PySem PySem.Spec PyProof.Rows
section
variable {X : Cx} {e : Expr} {te : TE} {p1 p2 q1 q2 : Pos}
theorem bt_reversed : bootBuiltins "reversed" = some (.type "reversed") := by decide +kernel
def tListRev (K : PySem.W.Frag) (te : TE) : TE := fun σ H Q => te σ H fun x H1 => ∃ a xs,[x] = [.ref a] ∧ SqL K H1 a xs ∧ ∀ l H2,Same H1 H2 → H2 l = some (.lst xs.reverse) → H1 l = none → Q (.ref l) H2
theorem pe_list_rev (hcalm : X.calm = true) (gl : Gl X "list") (ml : X.mg "list" = none) (gr : Gl X "reversed") (mr : X.mg "reversed" = none) (he : PE X e te)
    (h1 : starEach [.Call (.Name "reversed" p1) [e] [] q1] X.env = [(false,eval (.Call (.Name "reversed" p1) [e] [] q1) X.env)] := by rfl) (h2 : starEach [e] X.env = [(false,eval e X.env)] := by rfl) :
    PE X (.Call (.Name "list" p2) [.Call (.Name "reversed" p1) [e] [] q1] [] q2) (tListRev X.K te) := by
  intro pins s σ H Q I h
  have h' : (tCons te tNil) σ H (fun vs H1 => ∃ a xs,vs = [.ref a] ∧ SqL X.K H1 a xs ∧ ∀ l H2,Same H1 H2 → H2 l = some (.lst xs.reverse) → H1 l = none → Q (.ref l) H2) := h
  have inner : wpAny (model X.prog X.w) X.A (eval (.Call (.Name "reversed" p1) [e] [] q1) X.env) (fun u s1 => ∃ (it a : Addr) (xs : List V) (its : List Value) (H1 : Hp),u = .ref it ∧ Inv X pins σ H1 s1 ∧ Vals xs its ∧ s1.heap.IsList a its.toArray ∧ xs.length ≤ sizeLine ∧ a ≠ it ∧ FpOk X pins H1 it ∧ s1.heap.IsRevIter it a ((its.toArray.size : Int) - 1) ∧
      ∀ l H2,Same H1 H2 → H2 l = some (.lst xs.reverse) → H1 l = none → Q (.ref l) H2) X.xe s := by
    refine wpAny_Call_Name_kw (ld_blt I gr mr bt_reversed (PyProof.Rows.callWith_type1 (thn ((pa_cons he pa_nil h2) q1 pins s σ H (fun vs H1 => ∃ a xs,vs = [.ref a] ∧ SqL X.K H1 a xs ∧ ∀ l H2,Same H1 H2 → H2 l = some (.lst xs.reverse) → H1 l = none → Q (.ref l) H2) I ?_) fun us s1 ⟨vs,H1,I1,r1,q⟩ => ?_) h2 rfl))
    · exact h'
    · obtain ⟨a,xs,rfl,hx,k⟩ := q
      obtain ⟨u,rfl,ru⟩ := vals1 r1
      cases ru
      obtain ⟨its,rv,pl,hz⟩ := I1.list hx
      refine call_reversed_list pl.isList ?_
      have al : a < s1.heap.objs.size := by obtain ⟨_,e,_⟩ := pl.isList; exact Heap.lt_size e
      have kp : ∀ b o,s1.heap.get? b = some o → (s1.heap.push (revObj a ((its.toArray.size : Int) - 1))).get? b = some o := fun b o e => Heap.get?_push_of_some _ e
      exact ⟨_,a,xs,its,H1,rfl,I1.kept (t' := s1.toks) kp,rv,pl.isList.at fun o e => kp _ o e,hz,Nat.ne_of_lt al,I1.fpOk (Nat.le_refl _) (I1.hok.fresh (Nat.le_refl _)),⟨_,Heap.get?_push_size _ rfl,rfl,rfl⟩,k⟩
  refine wpAny_Call_Name_kw (ld_blt I gl ml bt_list (PyProof.Rows.callWith_type1 ?_ h1 rfl))
  rw [h1]
  refine Calls.spliced_cons (thn inner fun u s1 ⟨it,a,xs,its,H1,eu,I1,rv,hl,hz,hne,fp,hrev,k⟩ => ?_)
  subst eu
  refine Calls.spliced_nil ?_
  have hlen := rv.length
  refine call_list_rev (I.ok.hd hcalm) hrev hl hne (by rw [List.size_toArray]; omega) fun h' tk acc' c' hk hS hacc => ?_
  obtain ⟨f0,f1,f2,f3,f4,f5⟩ := fp
  have hfr : H1 s1.heap.objs.size = none := I1.hok.fresh (Nat.le_refl _)
  have J1 : Inv X pins σ H1 { s1 with heap := h',toks := tk } := I1.turned (fun b o hb e => hk b o hb e) f0 f1 f3 f4 f5
  have hv : Vals xs.reverse acc'.toList := by
    have e : acc' = its.reverse.toArray := by
      obtain ⟨h3,h4⟩ := hacc
      refine Array.ext ?_ fun j hj1 hj2 => ?_
      · rw [h3]; simp
      · have z := h4 j _ (Array.getElem?_eq_getElem hj1)
        rw [List.size_toArray] at z
        have hj : j < its.length := by simpa using hj2
        have z' : its[its.length - 1 - j]? = some acc'[j] := by simpa using z
        have y : its.reverse[j]? = its[its.length - 1 - j]? := by rw [List.getElem?_reverse hj]
        rw [z'] at y
        have y2 : its.reverse.toArray[j]? = some acc'[j] := by simpa using y
        rw [Array.getElem?_eq_getElem hj2] at y2
        exact (Option.some.inj y2).symm
    rw [e]
    exact rv.reverse
  have hn : X.s₀.heap.get? s1.heap.objs.size = none := by
    cases e : X.s₀.heap.get? s1.heap.objs.size with
    | none => rfl
    | some o => exact absurd (Nat.lt_of_lt_of_le (Heap.lt_size e) I1.sz) (Nat.lt_irrefl _)
  obtain ⟨g0,g1,g2,g3,g4,g5⟩ := I1.fpOk (H' := H1) (Nat.le_refl _) hfr
  have J2 := J1.track (o := .lst xs.reverse) hfr hn g1 g4 g5 ⟨by rw [List.length_reverse]; exact hz,acc'.toList,c',hv,by simpa using hS⟩
  exact ⟨.ref s1.heap.objs.size,_,J2,rfl,k _ _ (Same.new hfr) upd_same hfr⟩
end
section
variable {X : Cx}
end
end L2
namespace L2
open PySem PySem.Spec PyProof.Rows
def ItR (K : PySem.W.Frag) (a : Addr) (n : Nat) : It := ⟨fun i H => ∃ xs x,SqL K H a xs ∧ xs.length = n ∧ i < n ∧ xs[n - 1 - i]? = some x,fun i H x H' => H' = H ∧ ∀ xs,SqL K H a xs → xs[n - 1 - i]? = some x,fun i _ => i = n⟩
theorem turn_rev {P : Program} {w : World} {K : PySem.W.Frag} {tg : Expr} (a it : Addr) (n : Nat) : Turn P w K tg (ItR K a n) [it] it (fun i h => h.IsRevIter it a ((n : Int) - 1 - (i : Int))) where
  mem := by simp
  obj := fun i h st b hb => by
    have e : b = it := by simpa using hb
    subst e
    obtain ⟨o,e,c,d⟩ := st
    exact ⟨o,e,fun v z => by rw [d] at z; cases z⟩
  keep := fun i h h' st k => st.at fun o e => k it (by simp) o e
  item := by
    intro X hP hw hK hc i pins s σ H E I hf st hg
    subst hP hw hK
    obtain ⟨xs,x,hq,hn,hi,hx⟩ := hg
    obtain ⟨its,rv,p,hz⟩ := I.list hq
    obtain ⟨u,hu,ru⟩ := rv.get hx
    obtain ⟨f0,f1,f2,f3,f4,f5⟩ := hf it (by simp)
    have e0 : (n : Int) - 1 - (i : Int) = ((n - 1 - i : Nat) : Int) := by omega
    have st0 : s.heap.IsRevIter it a ((n : Int) - 1 - (i : Int)) := st
    rw [e0] at st0
    refine wpAny_pyNext_rev_item st0 p.isList (x := u) (by simpa using hu) fun h' st' sb => ?_
    have I1 : Inv X pins σ H { s with heap := h' } := I.turned (t' := s.toks) (fun b o hb e => (sb.2 b hb).trans e) f0 f1 f3 f4 f5
    have e1 : ((n - 1 - i : Nat) : Int) - 1 = (n : Int) - 1 - ((i + 1 : Nat) : Int) := by omega
    rw [e1] at st'
    obtain ⟨o,e,c,d⟩ := id st'
    exact ⟨u,rfl,go_of (s := { s with heap := h' }) e c d (by decide) ⟨x,H,I1,ru,⟨rfl,fun ys hy => by rw [I.list_inj hy hq]; exact hx⟩,st',fun b hb => (hf b hb).1⟩⟩
  done := by
    intro X hP hw hK hc i pins s σ H E I hf st hg
    subst hP hw hK
    have hg : i = n := hg
    subst hg
    obtain ⟨f0,f1,f2,f3,f4,f5⟩ := hf it (by simp)
    have st0 : s.heap.IsRevIter it a ((i : Int) - 1 - (i : Int)) := st
    rw [show (i : Int) - 1 - (i : Int) = -1 by omega] at st0
    exact wpAny_pyNext_rev_end (I.ok.hd hc) st0 fun h' eb => ⟨rfl,I.turned (t' := s.toks) (fun b o hb e => eb b o hb e) f0 f1 f3 f4 f5⟩
  self := fun _ _ _ _ _ st h => wpAny_pyIter_revIter st h
def iRev (K : PySem.W.Frag) (te : TE) : TI := fun σ H R => te σ H fun x H1 => ∃ a xs,[x] = [.ref a] ∧ SqL K H1 a xs ∧ R (ItR K a xs.length) H1
theorem pi_rev {X : Cx} {tg e : Expr} {te : TE} {p1 q1 : Pos} (gr : Gl X "reversed") (mr : X.mg "reversed" = none) (he : PE X e te) (h2 : starEach [e] X.env = [(false,eval e X.env)] := by rfl) : PI X tg (.Call (.Name "reversed" p1) [e] [] q1) (iRev X.K te) := by
  intro pins s σ H R I h
  have h' : (tCons te tNil) σ H (fun vs H1 => ∃ a xs,vs = [.ref a] ∧ SqL X.K H1 a xs ∧ R (ItR X.K a xs.length) H1) := h
  refine wpAny_Call_Name_kw (ld_blt I gr mr bt_reversed (PyProof.Rows.callWith_type1 (thn ((pa_cons he pa_nil h2) q1 pins s σ H (fun vs H1 => ∃ a xs,vs = [.ref a] ∧ SqL X.K H1 a xs ∧ R (ItR X.K a xs.length) H1) I h') fun us s1 ⟨vs,H1,I1,r1,q⟩ => ?_) h2 rfl))
  obtain ⟨a,xs,rfl,hx,k⟩ := q
  obtain ⟨u,rfl,ru⟩ := vals1 r1
  cases ru
  obtain ⟨its,rv,pl,hz⟩ := I1.list hx
  have hl := rv.length
  refine call_reversed_list pl.isList ?_
  have al : a < s1.heap.objs.size := by obtain ⟨_,e,_⟩ := pl.isList; exact Heap.lt_size e
  have kp : ∀ b o,s1.heap.get? b = some o → (s1.heap.push (revObj a ((its.toArray.size : Int) - 1))).get? b = some o := fun b o e => Heap.get?_push_of_some _ e
  have it0 : (s1.heap.push (revObj a ((its.toArray.size : Int) - 1))).IsRevIter s1.heap.objs.size a ((its.toArray.size : Int) - 1) := ⟨_,Heap.get?_push_size _ rfl,rfl,rfl⟩
  refine wpAny_pyIter_revIter (i := (its.toArray.size : Int) - 1) it0 ?_
  refine ⟨_,[s1.heap.objs.size],_,_,H1,rfl,I1.kept (t' := s1.toks) kp,turn_rev a s1.heap.objs.size xs.length,?_,fun b hb => ?_,k⟩
  · show Heap.IsRevIter _ _ _ ((xs.length : Int) - 1 - ((0 : Nat) : Int))
    rw [show (xs.length : Int) - 1 - ((0 : Nat) : Int) = (its.toArray.size : Int) - 1 by rw [List.size_toArray]; omega]
    exact it0
  · have e : b = s1.heap.objs.size := by simpa using hb
    subst e
    exact I1.fpOk (Nat.le_refl _) (I1.hok.fresh (Nat.le_refl _))
end L2
namespace Wk
open PySem PySem.Spec L2 Mth Sp1 Sp2 Sp3 Sp7 Dr
structure Pr where
  p : Addr
  x : Addr
  y : Addr
  a : Int
  b : Int
  c : Int
  d : Int
structure PrAt (H : Hp) (q : Pr) : Prop where
  p_ : H q.p = some (.tup [.ref q.x,.ref q.y])
  x_ : H q.x = some (.tup [.int q.a,.int q.b])
  y_ : H q.y = some (.tup [.int q.c,.int q.d])
  lx : Low q.a q.b
  ly : Low q.c q.d
  nx : 0 ≤ q.a
  ny : 0 ≤ q.c
  ba : bits q.a ≤ 200
  bb : bits q.b ≤ 60
  bc : bits q.c ≤ 200
  bd : bits q.d ≤ 60
theorem PrAt.t {H H' : Hp} {q : Pr} (h : PrAt H q) (s : SameT H H') : PrAt H' q := ⟨s _ _ h.p_,s _ _ h.x_,s _ _ h.y_,h.lx,h.ly,h.nx,h.ny,h.ba,h.bb,h.bc,h.bd⟩
theorem PrAt.sx {H : Hp} {q : Pr} (h : PrAt H q) : Small q.a q.b := ⟨h.lx.pos,bits_le h.ba (by decide),bits_le h.bb (by decide)⟩
theorem PrAt.sy {H : Hp} {q : Pr} (h : PrAt H q) : Small q.c q.d := ⟨h.ly.pos,bits_le h.bc (by decide),bits_le h.bd (by decide)⟩
def prs (ps : List Pr) : List V := ps.map fun q => V.ref q.p
structure PairsAt (H : Hp) (l : Addr) (ps : List Pr) : Prop where
  lst : H l = some (.lst (prs ps))
  pr : ∀ q ∈ ps,PrAt H q
theorem PairsAt.mono {H H' : Hp} {l : Addr} {ps : List Pr} (h : PairsAt H l ps) (s : Same H H') : PairsAt H' l ps := ⟨s _ _ h.lst,fun q hq => (h.pr q hq).t s.t⟩
theorem prs_len (ps : List Pr) : (prs ps).length = ps.length := List.length_map _
theorem prs_get {ps : List Pr} {i : Nat} {v : V} (h : (prs ps)[i]? = some v) : ∃ q,ps[i]? = some q ∧ v = .ref q.p := by
  unfold prs at h
  rw [List.getElem?_map] at h
  obtain ⟨q,hq,rfl⟩ := Option.map_eq_some_iff.mp h
  exact ⟨q,hq,rfl⟩
def wHops : Str := "hops"
def wFree : Str := "free"
def wPart : Str := "part"
def wOn : Str := "on"
def goB (way : Str) (a b c d : Int) : Bool :=
  if way = wHops then (decide (b = 1) && (decide (d = 1) && (decide (c - a = 0) || decide (c - a = 1))))
  else if way = wFree then shareB a b c d
  else (!decide (c * b < a * d)) && shareB a b c d
def stepB (way : Str) (u v : Pr) : Bool := goB way u.a u.b v.a v.b && goB way u.c u.d v.c v.d
def stepsB (way : Str) : List Pr → Bool
  | u :: v :: r => stepB way u v && stepsB way (v :: r)
  | _ => true
def isP (a b n : Int) : Bool := decide (a = n) && decide (b = 1)
def endsB (n m : Int) (way : Str) (f l : Pr) : Bool :=
  if isP f.a f.b 0 && isP l.a l.b n then (if way = wPart then true else isP f.c f.d 0 && isP l.c l.d m) else false
def inB (n m : Int) (q : Pr) : Bool := (decide (q.a ≤ n * q.b)) && (decide (q.c ≤ m * q.d))
def walkB (n m : Int) (way : Str) (ps : List Pr) : Bool :=
  match ps with
  | [] => false
  | f :: r => (f :: r).all (inB n m) && (endsB n m way f ((f :: r).getLast (by simp)) && stepsB way (f :: r))
theorem walkB_cons (n m : Int) (way : Str) (f : Pr) (r : List Pr) : walkB n m way (f :: r) = ((f :: r).all (inB n m) && (endsB n m way f ((f :: r).getLast (by simp)) && stepsB way (f :: r))) := rfl
def pairV (n m : Int) (H : Hp) : V → Bool
  | .ref p => match H p with
    | some (.tup [x,y]) => placeV n H x && placeV m H y
    | _ => false
  | _ => false
def pairsV (n m : Int) (H : Hp) : V → Bool
  | .ref p => match H p with
    | some (.lst xs) => !xs.isEmpty && xs.all (pairV n m H)
    | _ => false
  | _ => false
structure PTh (H : Hp) (v : V) : Prop where
  kn : ∃ t,Kn H v t
  parts : ∀ p xs,v = .ref p → H p = some (.tup xs) → ∀ y ∈ xs,Thing H y ∧ ∀ q a b,y = .ref q → H q = some (.tup [.int a,.int b]) → bits a ≤ 200 ∧ bits b ≤ 60
structure PsTh (H : Hp) (v : V) : Prop where
  kn : ∃ t,Kn H v t
  parts : ∀ p xs,v = .ref p → H p = some (.lst xs) → xs.length < 900 ∧ ∀ y ∈ xs,PTh H y
inductive spPair (vs : List V) (H : Hp) (Q : VK) (x_3 : XK) : Prop
  | mk : ∀ (l1 l2 : Addr) (xs1 xs2 : List V) (v : V),(vs = [.ref l1,.ref l2,v]) → ((H l1 = some (.lst xs1) ∧ xs1.length ≤ 100)) → ((H l2 = some (.lst xs2) ∧ xs2.length ≤ 100)) → (PTh H v) → (Q (.bl (pairV ((xs1.length : Int) - 1) ((xs2.length : Int) - 1) H v)) H) → spPair vs H Q x_3
inductive spPairs (vs : List V) (H : Hp) (Q : VK) (x_3 : XK) : Prop
  | mk : ∀ (l1 l2 : Addr) (xs1 xs2 : List V) (v : V),(vs = [.ref l1,.ref l2,v]) → ((H l1 = some (.lst xs1) ∧ xs1.length ≤ 100)) → ((H l2 = some (.lst xs2) ∧ xs2.length ≤ 100)) → (PsTh H v) → (∀ H',Same H H' → Q (.bl (pairsV ((xs1.length : Int) - 1) ((xs2.length : Int) - 1) H v)) H') → spPairs vs H Q x_3
theorem kn_back {H H' : Hp} {p : Addr} {t : String} {o : HO} (k : Kn H (.ref p) t) (s : Same H H') (e : H' p = some o) : H p = some o := by
  cases k with
  | lst e1 => rw [s _ _ e1] at e; rw [e1]; exact e
  | tup e1 => rw [s _ _ e1] at e; rw [e1]; exact e
  | dict e1 => rw [s _ _ e1] at e; rw [e1]; exact e
theorem PTh.mono {H H' : Hp} {v : V} (h : PTh H v) (s : Same H H') : PTh H' v := by
  obtain ⟨⟨t,k⟩,pt⟩ := h
  refine ⟨⟨t,k.mono s⟩,fun p xs e1 e2 y hy => ?_⟩
  subst e1
  obtain ⟨th,bd⟩ := pt p xs rfl (kn_back k s e2) y hy
  refine ⟨Thing.mono th s,fun q a b e3 e4 => ?_⟩
  subst e3
  obtain ⟨t2,k2⟩ := th.kn
  exact bd q a b rfl (kn_back k2 s e4)
theorem placeV_same {n : Int} {H H' : Hp} {v : V} (h : Thing H v) (s : Same H H') : placeV n H' v = placeV n H v := by
  obtain ⟨t,k⟩ := h.kn
  cases k with
  | non => rfl
  | bl b => rfl
  | int i => rfl
  | str x => rfl
  | lst e => simp only [placeV,e,s _ _ e]
  | tup e => simp only [placeV,e,s _ _ e]
  | dict e => simp only [placeV,e,s _ _ e]
theorem pairV_tup {n m : Int} {H : Hp} {p : Addr} {x y : V} (e : H p = some (.tup [x,y])) : pairV n m H (.ref p) = (placeV n H x && placeV m H y) := by simp only [pairV,e]
theorem pairV_same {n m : Int} {H H' : Hp} {v : V} (h : PTh H v) (s : Same H H') : pairV n m H' v = pairV n m H v := by
  obtain ⟨⟨t,k⟩,pt⟩ := h
  cases k with
  | non => rfl
  | bl b => rfl
  | int i => rfl
  | str x => rfl
  | lst e => simp only [pairV,e,s _ _ e]
  | dict e => simp only [pairV,e,s _ _ e]
  | @tup p xs e =>
    match xs,e with
    | [],e => simp only [pairV,e,s _ _ e]
    | [x],e => simp only [pairV,e,s _ _ e]
    | [x,y],e =>
      rw [pairV_tup e,pairV_tup (s _ _ e),placeV_same (pt _ _ rfl e x (by simp)).1 s,placeV_same (pt _ _ rfl e y (by simp)).1 s]
    | x :: y :: z :: r,e => simp only [pairV,e,s _ _ e]
theorem pairV_inv {n m : Int} {H : Hp} {v : V} (h : PTh H v) (hv : pairV n m H v = true) : ∃ q : Pr,v = .ref q.p ∧ PrAt H q ∧ inB n m q = true := by
  unfold pairV at hv
  split at hv
  · split at hv
    · rename_i p _ x y e
      rw [Bool.and_eq_true] at hv
      obtain ⟨p1,a,b,rfl,e1,lw1,n1,r1⟩ := placeV_inv hv.1
      obtain ⟨p2,c,d,rfl,e2,lw2,n2,r2⟩ := placeV_inv hv.2
      have b1 := (h.parts p _ rfl e (.ref p1) (by simp)).2 p1 a b rfl e1
      have b2 := (h.parts p _ rfl e (.ref p2) (by simp)).2 p2 c d rfl e2
      refine ⟨⟨p,p1,p2,a,b,c,d⟩,rfl,⟨e,e1,e2,lw1,lw2,n1,n2,b1.1,b1.2,b2.1,b2.2⟩,?_⟩
      unfold inB
      rw [Bool.and_eq_true,decide_eq_true_eq,decide_eq_true_eq]
      exact ⟨r1,r2⟩
    · cases hv
  · cases hv
theorem pairsV_lst {n m : Int} {H : Hp} {p : Addr} {xs : List V} (e : H p = some (.lst xs)) : pairsV n m H (.ref p) = (!xs.isEmpty && xs.all (pairV n m H)) := by simp only [pairsV,e]
theorem pairsV_inv {n m : Int} {H : Hp} {v : V} (h : PsTh H v) (hv : pairsV n m H v = true) : ∃ (l : Addr) (ps : List Pr),v = .ref l ∧ PairsAt H l ps ∧ ps ≠ [] ∧ ps.all (inB n m) = true ∧ ps.length < 900 := by
  have hv0 := hv
  unfold pairsV at hv
  split at hv
  · split at hv
    · rename_i p _ xs e
      rw [Bool.and_eq_true] at hv
      obtain ⟨hl,hy⟩ := h.parts p xs rfl e
      have ch : ∀ xs : List V,(∀ y ∈ xs,PTh H y) → xs.all (pairV n m H) = true → ∃ ps : List Pr,xs = prs ps ∧ (∀ q ∈ ps,PrAt H q) ∧ ps.all (inB n m) = true := by
        intro xs
        induction xs with
        | nil => exact fun _ _ => ⟨[],rfl,(fun q h => nomatch h),rfl⟩
        | cons x xs ih =>
          intro h1 h2
          rw [List.all_cons,Bool.and_eq_true] at h2
          obtain ⟨ps,e1,e2,e3⟩ := ih (fun y hy => h1 y (List.mem_cons_of_mem _ hy)) h2.2
          obtain ⟨q,rfl,pq,iq⟩ := pairV_inv (h1 x List.mem_cons_self) h2.1
          refine ⟨q :: ps,by rw [e1]; rfl,fun r hr => ?_,by rw [List.all_cons,iq,e3]; rfl⟩
          rcases List.mem_cons.mp hr with rfl | hr
          · exact pq
          · exact e2 r hr
      obtain ⟨ps,rfl,e2,e3⟩ := ch xs hy hv.2
      refine ⟨p,ps,rfl,⟨e,e2⟩,fun z => ?_,e3,by rw [prs_len] at hl; exact hl⟩
      subst z
      exact absurd hv.1 (by simp [prs])
    · cases hv
  · cases hv
theorem Kn.cases_lst' {H : Hp} {n m : Int} {y : V} {t : String} (k : Kn H y t) : (∃ p xs,y = .ref p ∧ H p = some (.lst xs) ∧ t = "list") ∨ (pairsV n m H y = false ∧ isSub t "list" = false) := by
  cases k with
  | lst e => exact .inl ⟨_,_,rfl,e,rfl⟩
  | non => exact .inr ⟨rfl,by decide⟩
  | bl b => exact .inr ⟨rfl,by decide⟩
  | str x => exact .inr ⟨rfl,by decide⟩
  | int a => exact .inr ⟨rfl,by decide⟩
  | tup e => exact .inr ⟨by simp only [pairsV,e],by decide⟩
  | dict e => exact .inr ⟨by simp only [pairsV,e],by decide⟩
theorem Kn.cases_tp' {H : Hp} {n m : Int} {y : V} {t : String} (k : Kn H y t) : (∃ p xs,y = .ref p ∧ H p = some (.tup xs) ∧ t = "tuple") ∨ (pairV n m H y = false ∧ isSub t "tuple" = false) := by
  cases k with
  | tup e => exact .inl ⟨_,_,rfl,e,rfl⟩
  | non => exact .inr ⟨rfl,by decide⟩
  | bl b => exact .inr ⟨rfl,by decide⟩
  | str x => exact .inr ⟨rfl,by decide⟩
  | int a => exact .inr ⟨rfl,by decide⟩
  | lst e => exact .inr ⟨by simp only [pairV,e],by decide⟩
  | dict e => exact .inr ⟨by simp only [pairV,e],by decide⟩
theorem PrAt.th {H : Hp} {q : Pr} (h : PrAt H q) : PTh H (.ref q.p) := by
  refine ⟨⟨_,.tup h.p_⟩,fun p xs e1 e2 y hy => ?_⟩
  cases e1
  rw [h.p_] at e2
  cases e2
  have two : ∀ {a b : Int} {z : Addr},H z = some (.tup [.int a,.int b]) → bits a ≤ 200 → bits b ≤ 60 → Thing H (.ref z) ∧ ∀ q a b,V.ref z = .ref q → H q = some (.tup [.int a,.int b]) → bits a ≤ 200 ∧ bits b ≤ 60 := fun {a b z} e ha hb => by
    refine ⟨th_tup e fun v hv => ?_,fun q a' b' e1 e2 => ?_⟩
    · simp only [List.mem_cons,List.not_mem_nil,or_false] at hv
      rcases hv with rfl | rfl <;> exact ⟨_,.int _⟩
    · cases e1
      rw [e] at e2
      cases e2
      exact ⟨ha,hb⟩
  simp only [List.mem_cons,List.not_mem_nil,or_false] at hy
  rcases hy with rfl | rfl
  · exact two h.x_ h.ba h.bb
  · exact two h.y_ h.bc h.bd
theorem PairsAt.th {H : Hp} {l : Addr} {ps : List Pr} (h : PairsAt H l ps) (hl : ps.length < 900) : PsTh H (.ref l) := by
  refine ⟨⟨_,.lst h.lst⟩,fun p xs e1 e2 => ?_⟩
  cases e1
  rw [h.lst] at e2
  cases e2
  refine ⟨by rw [prs_len]; exact hl,fun y hy => ?_⟩
  obtain ⟨q,hq,rfl⟩ := List.mem_map.mp hy
  exact (h.pr q hq).th
theorem PrAt.pv {n m : Int} {H : Hp} {q : Pr} (h : PrAt H q) : pairV n m H (.ref q.p) = inB n m q := by
  rw [pairV_tup h.p_,placeV_tup h.x_,placeV_tup h.y_,low_B h.lx,low_B h.ly,decide_eq_true h.nx,decide_eq_true h.ny]
  rfl
theorem PairsAt.pv {n m : Int} {H : Hp} {l : Addr} {ps : List Pr} (h : PairsAt H l ps) : pairsV n m H (.ref l) = (!ps.isEmpty && ps.all (inB n m)) := by
  rw [pairsV_lst h.lst]
  unfold prs
  rw [List.all_map]
  congr 1
  · cases ps <;> rfl
  · apply Bool.eq_iff_iff.mpr
    rw [List.all_eq_true,List.all_eq_true]
    exact ⟨fun z q hq => by rw [← (h.pr q hq).pv]; exact z q hq,fun z q hq => by show pairV n m H (.ref q.p) = true; rw [(h.pr q hq).pv]; exact z q hq⟩
def isWay (w : Str) : Prop := w = wOn ∨ w = wPart ∨ w = wFree ∨ w = wHops
instance (w : Str) : Decidable (isWay w) := inferInstanceAs (Decidable (_ ∨ _))
inductive spWayS (C : Addr) (vs : List V) (H : Hp) (Q : VK) (E : XK) : Prop
  | mk : ∀ (x : V) (t : String),(vs = [x]) → (Kn H x t) → (((∃ w,x = .str w ∧ isWay w ∧ Q .non H) ∨ ((∀ w,x = .str w → ¬ isWay w) ∧ E (.ref C) none H))) → spWayS C vs H Q E
inductive spEnds (vs : List V) (H : Hp) (Q : VK) (x_3 : XK) : Prop
  | mk : ∀ (l1 l2 l : Addr) (xs1 xs2 : List V) (f : Pr) (r : List Pr) (w : Str),(vs = [.ref l1,.ref l2,.ref l,.str w]) → (H l1 = some (.lst xs1)) → (H l2 = some (.lst xs2)) → (PairsAt H l (f :: r)) → (∀ H',Same H H' → Q (.bl (endsB ((xs1.length : Int) - 1) ((xs2.length : Int) - 1) w f ((f :: r).getLast (by simp)))) H') → spEnds vs H Q x_3
inductive spGo2 (g : Int → Int → Int → Int → Bool) (vs : List V) (H : Hp) (Q : VK) (x_3 : XK) : Prop
  | mk : ∀ (p q : Addr) (a b c d : Int),(vs = [.ref p,.ref q]) → (H p = some (.tup [.int a,.int b])) → (H q = some (.tup [.int c,.int d])) → (Small a b) → (Small c d) → (∀ H',Same H H' → Q (.bl (g a b c d)) H') → spGo2 g vs H Q x_3
inductive spMay (vs : List V) (H : Hp) (Q : VK) (x_3 : XK) : Prop
  | mk : ∀ (p q : Addr) (a b c d : Int) (w : Str),(vs = [.ref p,.ref q,.str w]) → (H p = some (.tup [.int a,.int b])) → (H q = some (.tup [.int c,.int d])) → (Small a b) → (Small c d) → (∀ H',Same H H' → Q (.bl (goB w a b c d)) H') → spMay vs H Q x_3
inductive spSteps (vs : List V) (H : Hp) (Q : VK) (x_3 : XK) : Prop
  | mk : ∀ (l : Addr) (ps : List Pr) (w : Str),(vs = [.ref l,.str w]) → (PairsAt H l ps) → (ps.length < 900) → (∀ H',Same H H' → Q (.bl (stepsB w ps)) H') → spSteps vs H Q x_3
def walkV (n m : Int) (w : Str) (H : Hp) (v : V) (b : Bool) : Prop := (pairsV n m H v = false ∧ b = false) ∨ ∃ (l : Addr) (ps : List Pr),v = .ref l ∧ PairsAt H l ps ∧ b = walkB n m w ps
inductive spIsWalk (C : Addr) (vs : List V) (H : Hp) (Q : VK) (E : XK) : Prop
  | mk : ∀ (l1 l2 : Addr) (xs1 xs2 : List V) (v x : V) (t : String),(vs = [.ref l1,.ref l2,v,x]) → ((H l1 = some (.lst xs1) ∧ xs1.length ≤ 100)) → ((H l2 = some (.lst xs2) ∧ xs2.length ≤ 100)) → (PsTh H v) → (Kn H x t) → (((∃ w,x = .str w ∧ isWay w ∧ ∀ (b : Bool) (H' : Hp),Same H H' → walkV ((xs1.length : Int) - 1) ((xs2.length : Int) - 1) w H v b → Q (.bl b) H') ∨ ((∀ w,x = .str w → ¬ isWay w) ∧ E (.ref C) none H))) → spIsWalk C vs H Q E
end Wk
namespace L2
open PySem PySem.Spec PyProof.Rows
theorem pg_tupK {X : Cx} {K : PySem.W.Frag} {pos : Pos} {es : List Expr} {k : Nat} {t : TGs} {n : Nat} (hK : X.K = K) (hc : X.calm = true) (h : PGs X es t)
    (hn : (assignEach es X.env).length = n := by rfl) (hst : (assignEach es X.env).findIdx? (·.1) = none := by rfl) : PG X (.Tuple es k pos) (gTup K n t) := by
  subst hK
  exact pg_tup hc h hn hst
end L2
namespace Fnc
open PySem PySem.Spec L2 Mth Sp1 Sp2 Sp3 Sp7 Dr Wk
def ltB (a b c d : Int) : Bool := decide (a * d < c * b)
def backB (u v : Pr) : Bool := !ltB u.a u.b v.a v.b && !ltB v.c v.d u.c u.d
def keepX (u v : Pr) : Bool := decide ([u.a,u.b] = [v.a,v.b]) && (decide (u.b = 1) && shareB u.c u.d v.c v.d)
def keepY (u v : Pr) : Bool := decide ([u.c,u.d] = [v.c,v.d]) && (decide (u.d = 1) && shareB u.a u.b v.a v.b)
def keepN (n : Int) (u v : Pr) : Bool := if n = 0 then keepX u v else keepY u v
def slideB (u v : Pr) : Bool := keepX u v || keepY u v
def asideB (u v : Pr) : Bool := (decide (v.a - u.a ≤ 0) && decide (u.c - v.c ≤ 1)) || (decide (v.a - u.a ≤ 1) && decide (u.c - v.c ≤ 0))
def mayB (way : Str) (u v : Pr) : Bool := if way = wHops then asideB u v else if way = wFree then slideB u v else (backB u v || slideB u v)
def fstepsB (way : Str) : List Pr → Bool
  | u :: v :: r => mayB way u v && fstepsB way (v :: r)
  | _ => true
def fendsB (n m : Int) (way : Str) (f l : Pr) : Bool := if way = wPart then (isP f.c f.d m && isP l.c l.d 0) else ((isP f.c f.d m || isP f.a f.b 0) && (isP l.c l.d 0 || isP l.a l.b n))
def wholeB (q : Pr) : Bool := decide (q.b = 1) && decide (q.d = 1)
def fenceB (n m : Int) (way : Str) (ps : List Pr) : Bool :=
  match ps with
  | [] => false
  | f :: r => (f :: r).all (inB n m) && ((if way = wHops then (f :: r).all wholeB else true) && (fendsB n m way f ((f :: r).getLast (by simp)) && fstepsB way (f :: r)))
theorem fenceB_cons (n m : Int) (way : Str) (f : Pr) (r : List Pr) : fenceB n m way (f :: r) = ((f :: r).all (inB n m) && ((if way = wHops then (f :: r).all wholeB else true) && (fendsB n m way f ((f :: r).getLast (by simp)) && fstepsB way (f :: r)))) := rfl
theorem fsteps_iff {w : Str} : ∀ {ps : List Pr},fstepsB w ps = true ↔ ∀ (j : Nat) u v,ps[j]? = some u → ps[j + 1]? = some v → mayB w u v = true
  | [] => by simp [fstepsB]
  | [u] => by simp [fstepsB]
  | u :: v :: r => by
    unfold fstepsB
    rw [Bool.and_eq_true,fsteps_iff (ps := v :: r)]
    constructor
    · rintro ⟨h1,h2⟩ j x y ex ey
      cases j with
      | zero => cases ex; cases ey; exact h1
      | succ j => exact h2 j x y (by simpa using ex) (by simpa using ey)
    · intro h
      exact ⟨h 0 u v rfl rfl,fun j x y ex ey => h (j + 1) x y (by simpa using ex) (by simpa using ey)⟩
inductive spTwo (g : Pr → Pr → Bool) (vs : List V) (H : Hp) (Q : VK) (x_3 : XK) : Prop
  | mk : ∀ u v : Pr,(vs = [.ref u.p,.ref v.p]) → (PrAt H u) → (PrAt H v) → (∀ H',Same H H' → Q (.bl (g u v)) H') → spTwo g vs H Q x_3
inductive spKeep (vs : List V) (H : Hp) (Q : VK) (x_3 : XK) : Prop
  | mk : ∀ (u v : Pr) (n : Int),(vs = [.ref u.p,.ref v.p,.int n]) → ((n = 0 ∨ n = 1)) → (PrAt H u) → (PrAt H v) → (∀ H',Same H H' → Q (.bl (keepN n u v)) H') → spKeep vs H Q x_3
inductive spMayF (vs : List V) (H : Hp) (Q : VK) (x_3 : XK) : Prop
  | mk : ∀ (u v : Pr) (wy : Str),(vs = [.ref u.p,.ref v.p,.str wy]) → (PrAt H u) → (PrAt H v) → (∀ H',Same H H' → Q (.bl (mayB wy u v)) H') → spMayF vs H Q x_3
inductive spWhl (vs : List V) (H : Hp) (Q : VK) (x_3 : XK) : Prop
  | mk : ∀ u : Pr,(vs = [.ref u.p]) → (PrAt H u) → (Q (.bl (wholeB u)) H) → spWhl vs H Q x_3
inductive spFEnds (vs : List V) (H : Hp) (Q : VK) (x_3 : XK) : Prop
  | mk : ∀ (l1 l2 l : Addr) (xs1 xs2 : List V) (f : Pr) (r : List Pr) (wy : Str),(vs = [.ref l1,.ref l2,.ref l,.str wy]) → (H l1 = some (.lst xs1)) → (H l2 = some (.lst xs2)) → (PairsAt H l (f :: r)) → (∀ H',Same H H' → Q (.bl (fendsB ((xs1.length : Int) - 1) ((xs2.length : Int) - 1) wy f ((f :: r).getLast (by simp)))) H') → spFEnds vs H Q x_3
inductive spFSteps (vs : List V) (H : Hp) (Q : VK) (x_3 : XK) : Prop
  | mk : ∀ (l : Addr) (ps : List Pr) (wy : Str),(vs = [.ref l,.str wy]) → (PairsAt H l ps) → (ps.length < 900) → (∀ H',Same H H' → Q (.bl (fstepsB wy ps)) H') → spFSteps vs H Q x_3
def fenceV (n m : Int) (wy : Str) (H : Hp) (v : V) (b : Bool) : Prop := (pairsV n m H v = false ∧ b = false) ∨ ∃ (l : Addr) (ps : List Pr),v = .ref l ∧ PairsAt H l ps ∧ b = fenceB n m wy ps
inductive spIsFence (C : Addr) (vs : List V) (H : Hp) (Q : VK) (E : XK) : Prop
  | mk : ∀ (l1 l2 : Addr) (xs1 xs2 : List V) (v x : V) (t : String),(vs = [.ref l1,.ref l2,v,x]) → ((H l1 = some (.lst xs1) ∧ xs1.length ≤ 100)) → ((H l2 = some (.lst xs2) ∧ xs2.length ≤ 100)) → (PsTh H v) → (Kn H x t) → (((∃ wy,x = .str wy ∧ isWay wy ∧ ∀ (b : Bool) (H' : Hp),Same H H' → fenceV ((xs1.length : Int) - 1) ((xs2.length : Int) - 1) wy H v b → Q (.bl b) H') ∨ ((∀ wy,x = .str wy → ¬ isWay wy) ∧ E (.ref C) none H))) → spIsFence C vs H Q E
theorem di (i j : Int) : decide (V.int i = V.int j) = decide (i = j) := by
  rw [Bool.eq_iff_iff]
  simp
theorem ds {u v : Str} {b : Bool} (h : decide (V.str u = V.str v) = b) : decide (u = v) = b := by
  rw [← h,Bool.eq_iff_iff]
  simp
theorem ltB_bits {H : Hp} {u v : Pr} (pu : PrAt H u) (pv : PrAt H v) : (bits u.a ≤ 2000 ∧ bits u.b ≤ 2000 ∧ bits v.a ≤ 2000 ∧ bits v.b ≤ 2000) ∧ (bits v.c ≤ 2000 ∧ bits v.d ≤ 2000 ∧ bits u.c ≤ 2000 ∧ bits u.d ≤ 2000) :=
  ⟨⟨bits_le pu.ba (by decide),bits_le pu.bb (by decide),bits_le pv.ba (by decide),bits_le pv.bb (by decide)⟩,⟨bits_le pv.bc (by decide),bits_le pv.bd (by decide),bits_le pu.bc (by decide),bits_le pu.bd (by decide)⟩⟩
end Fnc
namespace Fnc
open PySem PySem.Spec L2 Mth Sp1 Sp2 Sp3 Sp7 Dr Wk
end Fnc
namespace Fnc
open PySem PySem.Spec L2 Mth Sp1 Sp2 Sp3 Sp7 Dr Wk
def ptB (wy : Str) : Bool := decide (wy = wPart)
def e1B (m : Int) (wy : Str) (f : Pr) : Bool := isP f.c f.d m || (!ptB wy && isP f.a f.b 0)
def e2B (n : Int) (wy : Str) (z : Pr) : Bool := isP z.c z.d 0 || (!ptB wy && isP z.a z.b n)
theorem fends_eq (n m : Int) (wy : Str) (f z : Pr) : fendsB n m wy f z = (e1B m wy f && e2B n wy z) := by
  unfold fendsB e1B e2B ptB
  by_cases h : wy = wPart
  · rw [if_pos h,decide_eq_true h]
    simp
  · rw [if_neg h,decide_eq_false h]
    simp
end Fnc
namespace L2
open PySem PySem.Spec PyProof.Rows
section
variable {X : Cx} {e : Expr} {te : TE} {st : Expr} {ts : TO} {pos p2 : Pos}
end
end L2
namespace L2
open PySem PySem.Spec PyProof.Rows
section
variable {X : Cx}
end
end L2
namespace L2
open PySem PySem.Spec PyProof.Rows
section
variable {X : Cx}
end
end L2
namespace L2
open PySem PySem.Spec PyProof.Rows
section
variable {X : Cx}
end
end L2
namespace Sp12
open PySem PySem.Spec L2 Mth Sp1 Sp2 Sp3
end Sp12
namespace Sp11
open PySem PySem.Spec L2 Mth Sp1 Sp2
inductive spRatioN (C : Addr) (vs : List V) (H : Hp) (Q : VK) (E : XK) : Prop
  | mk : ∀ (a b : Int) (n : Nat),(vs = [.int a,.int b]) → ((bits a ≤ n ∧ bits b ≤ n ∧ n ≤ 4500)) → ((b = 0 → E (.ref C) none H)) → ((b ≠ 0 → ∀ (p : Addr) (t u : Int),Frac a b t u → bits t ≤ n → bits u ≤ n → H p = none → Q (.ref p) (upd H p (.tup [.int t,.int u])))) → spRatioN C vs H Q E
structure Fr2 (H : Hp) (p : Addr) (a b : Int) (n : Nat) : Prop where
  at_ : H p = some (.tup [.int a,.int b])
  low : Low a b
  ba : bits a ≤ n
  bb : bits b ≤ n
theorem Fr2.mono {H H' : Hp} {p : Addr} {a b : Int} {n : Nat} (f : Fr2 H p a b n) (s : Same H H') : Fr2 H' p a b n := ⟨s _ _ f.at_,f.low,f.ba,f.bb⟩
theorem Fr2.wide {H : Hp} {p : Addr} {a b : Int} {m n : Nat} (f : Fr2 H p a b m) (h : m ≤ n) : Fr2 H p a b n := ⟨f.at_,f.low,bits_le f.ba h,bits_le f.bb h⟩
inductive spBin (num den : Int → Int → Int → Int → Int) (vs : List V) (H : Hp) (Q : VK) (x_3 : XK) : Prop
  | mk : ∀ (p q : Addr) (a b c d : Int) (n : Nat),(vs = [.ref p,.ref q]) → (Fr2 H p a b n) → (Fr2 H q c d n) → (n ≤ 2200) → (den a b c d ≠ 0) → (∀ (r : Addr) (t u : Int) (H' : Hp),Frac (num a b c d) (den a b c d) t u → Fr2 H' r t u (2 * n + 1) → Same H H' → Q (.ref r) H') → spBin num den vs H Q x_3
def numAt (x y t b : Int) : Int := x * b + (y - x) * (t % b)
inductive spNumAt (vs : List V) (H : Hp) (Q : VK) (x_3 : XK) : Prop
  | mk : ∀ (x y : Int) (p : Addr) (t b : Int),(vs = [.int x,.int y,.ref p]) → (Fr2 H p t b 200) → (bits x ≤ 60) → (bits y ≤ 60) → (∀ (r : Addr) (u v : Int) (H' : Hp),Frac (numAt x y t b) b u v → Fr2 H' r u v 262 → Same H H' → Q (.ref r) H') → spNumAt vs H Q x_3
def side0 (qs : List (Addr × Int × Int)) (t b : Int) : Int × Int := (qs.getD (t / b).toNat (0,0,0)).2
def side1 (qs : List (Addr × Int × Int)) (t b : Int) : Int × Int := (qs.getD (min ((t / b).toNat + 1) (qs.length - 1)) (0,0,0)).2
def ptX (qs : List (Addr × Int × Int)) (t b : Int) : Int := numAt (side0 qs t b).1 (side1 qs t b).1 t b
def ptY (qs : List (Addr × Int × Int)) (t b : Int) : Int := numAt (side0 qs t b).2 (side1 qs t b).2 t b
structure PtAt (H : Hp) (r : Addr) (X Y b : Int) (n : Nat) : Prop where
  ex : ∃ (rx ry : Addr) (u v c d : Int),H r = some (.tup [.ref rx,.ref ry]) ∧ Fr2 H rx u v n ∧ Fr2 H ry c d n ∧ Frac X b u v ∧ Frac Y b c d
theorem PtAt.mono {H H' : Hp} {r : Addr} {X Y b : Int} {n : Nat} (p : PtAt H r X Y b n) (s : Same H H') : PtAt H' r X Y b n := by
  obtain ⟨rx,ry,u,v,c,d,e,f,g,h,k⟩ := p.ex
  exact ⟨⟨rx,ry,u,v,c,d,s _ _ e,f.mono s,g.mono s,h,k⟩⟩
inductive spPoint (C : Addr) (vs : List V) (H : Hp) (Q : VK) (E : XK) : Prop
  | mk : ∀ (l : Addr) (qs : List (Addr × Int × Int)) (x : V),(vs = [.ref l,x]) → (LineAt H l qs) → (1 ≤ qs.length) → (qs.length ≤ 20) → (Thing H x) → ((placeV ((qs.length : Int) - 1) H x = false → E (.ref C) none H)) → ((∀ (p : Addr) (t b : Int),x = .ref p → H p = some (.tup [.int t,.int b]) → Low t b → 0 ≤ t → t ≤ ((qs.length : Int) - 1) * b → bits t ≤ 200 ∧ bits b ≤ 200 ∧
    ∀ (r : Addr) (H' : Hp),PtAt H' r (ptX qs t b) (ptY qs t b) b 262 → Same H H' → Q (.ref r) H')) → spPoint C vs H Q E
end Sp11
namespace Sp11
open PySem PySem.Spec L2 Mth Sp1 Sp2
structure PtF (H : Hp) (r : Addr) (u v c d : Int) (n : Nat) : Prop where
  ex : ∃ rx ry : Addr,H r = some (.tup [.ref rx,.ref ry]) ∧ Fr2 H rx u v n ∧ Fr2 H ry c d n
theorem PtF.mono {H H' : Hp} {r : Addr} {u v c d : Int} {n : Nat} (p : PtF H r u v c d n) (s : Same H H') : PtF H' r u v c d n := by
  obtain ⟨rx,ry,e,f,g⟩ := p.ex
  exact ⟨⟨rx,ry,s _ _ e,f.mono s,g.mono s⟩⟩
inductive spStep (vs : List V) (H : Hp) (Q : VK) (x_3 : XK) : Prop
  | mk : ∀ (p q : Addr) (u v c d u' v' c' d' : Int),(vs = [.ref p,.ref q]) → (PtF H p u v c d 262) → (PtF H q u' v' c' d' 262) → (∀ (r : Addr) (a b e f : Int) (H' : Hp),Frac (u' * v - u * v') (v' * v) a b → Frac (c' * d - c * d') (d' * d) e f → PtF H' r a b e f 525 → Same H H' → Q (.ref r) H') → spStep vs H Q x_3
inductive spInner (vs : List V) (H : Hp) (Q : VK) (x_3 : XK) : Prop
  | mk : ∀ (p q : Addr) (a b e f a' b' e' f' : Int),(vs = [.ref p,.ref q]) → (PtF H p a b e f 525) → (PtF H q a' b' e' f' 525) → (∀ (r : Addr) (m n m' n' s w : Int) (H' : Hp),Frac (a * a') (b * b') m n → Frac (e * e') (f * f') m' n' → Frac (m * n' + m' * n) (n * n') s w → Fr2 H' r s w 2103 → Same H H' → Q (.ref r) H') → spInner vs H Q x_3
def sqN (X Y b X' Y' b' : Int) : Int := (X' * b - X * b') * (X' * b - X * b') + (Y' * b - Y * b') * (Y' * b - Y * b')
def sqD (b b' : Int) : Int := (b * b') * (b * b')
inductive spSqB (vs : List V) (H : Hp) (Q : VK) (x_3 : XK) : Prop
  | mk : ∀ (p q : Addr) (X Y b X' Y' b' : Int),(vs = [.ref p,.ref q]) → (PtAt H p X Y b 262) → (PtAt H q X' Y' b' 262) → (0 < b) → (0 < b') → (∀ (r : Addr) (s w : Int) (H' : Hp),Frac (sqN X Y b X' Y' b') (sqD b b') s w → Fr2 H' r s w 2103 → Same H H' → Q (.ref r) H') → spSqB vs H Q x_3
theorem diff_eq {X b X' b' u v u' v' a e : Int} (hv : v ≠ 0) (hv' : v' ≠ 0) (h1 : X * v = u * b) (h2 : X' * v' = u' * b') (h3 : (u' * v - u * v') * e = a * (v' * v)) : (X' * b - X * b') * e = a * (b * b') := by
  have z : (v * v') * ((X' * b - X * b') * e) = (v * v') * (a * (b * b')) := by
    have z1 : (v * v') * ((X' * b - X * b') * e) = (X' * v' * (b * v) - X * v * (b' * v')) * e := by grind
    rw [z1,h1,h2]
    have z2 : (u' * b' * (b * v) - u * b * (b' * v')) * e = b * b' * ((u' * v - u * v') * e) := by grind
    rw [z2,h3]
    grind
  exact Int.eq_of_mul_eq_mul_left (Int.mul_ne_zero hv hv') z
theorem sq_eq {D B a e m n : Int} (he : e ≠ 0) (h1 : D * e = a * B) (h2 : a * a * n = m * (e * e)) : D * D * n = m * (B * B) := by
  have z : (e * e) * (D * D * n) = (e * e) * (m * (B * B)) := by
    have z1 : (e * e) * (D * D * n) = (D * e) * (D * e) * n := by grind
    rw [z1,h1]
    have z2 : a * B * (a * B) * n = B * B * (a * a * n) := by grind
    rw [z2,h2]
    grind
  exact Int.eq_of_mul_eq_mul_left (Int.mul_ne_zero he he) z
theorem sum_eq {S T G m n m' n' s w : Int} (hn : n ≠ 0) (hn' : n' ≠ 0) (h1 : S * n = m * G) (h2 : T * n' = m' * G) (h3 : (m * n' + m' * n) * w = s * (n * n')) : (S + T) * w = s * G := by
  have z : (n * n') * ((S + T) * w) = (n * n') * (s * G) := by
    have z1 : (n * n') * ((S + T) * w) = (S * n * n' + T * n' * n) * w := by grind
    rw [z1,h1,h2]
    have z2 : (m * G * n' + m' * G * n) * w = G * ((m * n' + m' * n) * w) := by grind
    rw [z2,h3]
    grind
  exact Int.eq_of_mul_eq_mul_left (Int.mul_ne_zero hn hn') z
theorem sq_frac {X Y b X' Y' b' u v c d u' v' c' d' a e a' e' m n m' n' s w : Int} (f1 : Frac X b u v) (f2 : Frac Y b c d) (f3 : Frac X' b' u' v') (f4 : Frac Y' b' c' d') (g1 : Frac (u' * v - u * v') (v' * v) a e) (g2 : Frac (c' * d - c * d') (d' * d) a' e')
    (k1 : Frac (a * a) (e * e) m n) (k2 : Frac (a' * a') (e' * e') m' n') (k3 : Frac (m * n' + m' * n) (n * n') s w) : Frac (sqN X Y b X' Y' b') (sqD b b') s w := by
  refine ⟨k3.low,?_⟩
  have p1 := f1.low.pos
  have p2 := f2.low.pos
  have p3 := f3.low.pos
  have p4 := f4.low.pos
  have p5 := g1.low.pos
  have p6 := g2.low.pos
  have p7 := k1.low.pos
  have p8 := k2.low.pos
  have q1 := diff_eq (by omega) (by omega) f1.eq f3.eq g1.eq
  have q2 := diff_eq (by omega) (by omega) f2.eq f4.eq g2.eq
  have q3 := sq_eq (by omega) q1 k1.eq
  have q4 := sq_eq (by omega) q2 k2.eq
  exact sum_eq (by omega) (by omega) q3 q4 k3.eq
structure Plc (H : Hp) (p : Addr) (t b n : Int) : Prop where
  at_ : H p = some (.tup [.int t,.int b])
  low : Low t b
  lo : 0 ≤ t
  hi : t ≤ n * b
  bt : bits t ≤ 200
  bb : bits b ≤ 200
theorem Plc.mono {H H' : Hp} {p : Addr} {t b n : Int} (f : Plc H p t b n) (s : Same H H') : Plc H' p t b n := ⟨s _ _ f.at_,f.low,f.lo,f.hi,f.bt,f.bb⟩
theorem Plc.th {H : Hp} {p : Addr} {t b n : Int} (f : Plc H p t b n) : Thing H (.ref p) := th_tup f.at_ fun v hv => by
  simp only [List.mem_cons,List.not_mem_nil,or_false] at hv
  rcases hv with rfl | rfl <;> exact ⟨_,.int _⟩
theorem Plc.place {H : Hp} {p : Addr} {t b n : Int} (f : Plc H p t b n) : placeV n H (.ref p) = true := placeV_of f.at_ f.low f.lo f.hi
theorem placeV_same {n : Int} {H H' : Hp} {x : V} {k : String} (kn : Kn H x k) (s : Same H H') : placeV n H' x = placeV n H x := by
  cases kn with
  | non => rfl
  | bl b => rfl
  | int i => rfl
  | str x => rfl
  | lst e => simp only [placeV,e,s _ _ e]
  | tup e => simp only [placeV,e,s _ _ e]
  | dict e => simp only [placeV,e,s _ _ e]
theorem Thing.mono {H H' : Hp} {x : V} (h : Thing H x) (s : Same H H') : Thing H' x := by
  obtain ⟨⟨t,k⟩,pt⟩ := h
  refine ⟨⟨t,k.mono s⟩,fun p xs e1 e2 y hy => ?_⟩
  subst e1
  have e3 : H p = some (.tup xs) := by
    cases k with
    | lst e => rw [s _ _ e] at e2; cases e2
    | tup e => rw [s _ _ e] at e2; cases e2; exact e
    | dict e => rw [s _ _ e] at e2; cases e2
  obtain ⟨t',k'⟩ := pt p xs rfl e3 y hy
  exact ⟨t',k'.mono s⟩
abbrev Crn := List (Addr × Int × Int)
def sqF (qs : Crn) (t b : Int) (qs' : Crn) (t' b' : Int) : Int := sqN (ptX qs t b) (ptY qs t b) b (ptX qs' t' b') (ptY qs' t' b') b'
def lst_ (qs : Crn) : Int := (qs.length : Int) - 1
inductive spSquare (C : Addr) (vs : List V) (H : Hp) (Q : VK) (E : XK) : Prop
  | mk : ∀ (l l' : Addr) (qs qs' : Crn) (x y : V),(vs = [.ref l,x,.ref l',y]) → (LineAt H l qs) → (LineAt H l' qs') → ((1 ≤ qs.length ∧ qs.length ≤ 20)) → ((1 ≤ qs'.length ∧ qs'.length ≤ 20)) → (Thing H x) → (Thing H y) → (((placeV (lst_ qs) H x = false ∧ E (.ref C) none H) ∨
   (∃ (p : Addr) (t b : Int),x = .ref p ∧ Plc H p t b (lst_ qs) ∧
     ((placeV (lst_ qs') H y = false ∧ ∀ H',Same H H' → E (.ref C) none H') ∨
      (∃ (q : Addr) (t' b' : Int),y = .ref q ∧ Plc H q t' b' (lst_ qs') ∧
        ∀ (r : Addr) (s w : Int) (H' : Hp),Frac (sqF qs t b qs' t' b') (sqD b b') s w → Fr2 H' r s w 2103 → Same H H' → Q (.ref r) H'))))) → spSquare C vs H Q E
theorem crn_bits {H : Hp} {l : Addr} {qs : Crn} (L : LineAt H l qs) (j : Nat) : bits (qs.getD j (0,0,0)).2.1 ≤ 50 ∧ bits (qs.getD j (0,0,0)).2.2 ≤ 50 := by
  rw [List.getD_eq_getElem?_getD]
  by_cases h : j < qs.length
  · rw [List.getElem?_eq_getElem h]
    exact (L.crn _ (List.getElem_mem h)).2
  · rw [List.getElem?_eq_none (by omega)]
    exact ⟨by decide,by decide⟩
theorem num_bits {x y t b : Int} (hb : 0 < b) (bx : bits x ≤ 50) (by' : bits y ≤ 50) (bb : bits b ≤ 200) : bits (numAt x y t b) ≤ 262 := by
  have br : bits (t % b) ≤ 200 := bits_range (Int.emod_nonneg _ (by omega)) (Int.le_of_lt (Int.emod_lt_of_pos _ hb)) bb
  exact bits_le (bits_add (n := 251) (bits_le (bits_mul bx bb) (by decide)) (bits_mul (bits_sub by' bx) br)) (by decide)
theorem pt_bits {H : Hp} {l : Addr} {qs : Crn} {t b : Int} (L : LineAt H l qs) (hb : 0 < b) (bb : bits b ≤ 200) : bits (ptX qs t b) ≤ 262 ∧ bits (ptY qs t b) ≤ 262 :=
  ⟨num_bits hb (crn_bits L _).1 (crn_bits L _).1 bb,num_bits hb (crn_bits L _).2 (crn_bits L _).2 bb⟩
end Sp11
namespace Sp11
open PySem PySem.Spec L2 Mth Sp1 Sp2
def cr (c : Int × Int → Int) (qs : Crn) (j : Nat) : Int := c (qs.getD j (0,0,0)).2
def ptC (c : Int × Int → Int) (qs : Crn) (t b : Int) : Int := numAt (c (side0 qs t b)) (c (side1 qs t b)) t b
theorem pt_on {c : Int × Int → Int} {qs : Crn} {t b : Int} {k : Nat} (hb : 0 < b) (hk : k + 1 < qs.length) (h1 : (k : Int) * b ≤ t) (h2 : t ≤ ((k : Int) + 1) * b) :
    ptC c qs t b = cr c qs k * b + (cr c qs (k + 1) - cr c qs k) * (t - (k : Int) * b) := by
  have e0 := Int.emod_add_mul_ediv t b
  rw [Int.mul_comm] at e0
  have r0 := Int.emod_nonneg t (show b ≠ 0 by omega)
  have r1 := Int.emod_lt_of_pos t hb
  unfold ptC Sp11.numAt side0 side1
  by_cases hlt : t < ((k : Int) + 1) * b
  · have ek : t / b = (k : Int) := by
      refine Int.le_antisymm ?_ (fl_ge hb h1)
      have h3 : t / b < (k : Int) + 1 := Int.ediv_lt_of_lt_mul hb hlt
      omega
    have er : t % b = t - (k : Int) * b := by rw [ek] at e0; omega
    rw [ek,er,Int.toNat_natCast,Nat.min_eq_left (by omega)]
    rfl
  · have et : t = ((k : Int) + 1) * b := by omega
    have ek : t / b = (k : Int) + 1 := by rw [et]; exact Int.mul_ediv_cancel _ (by omega)
    have er : t % b = 0 := by rw [et]; exact Int.mul_emod_left _ _
    rw [ek,er,show ((k : Int) + 1).toNat = k + 1 by omega,Int.mul_zero,Int.add_zero]
    have e2 : t - (k : Int) * b = b := by rw [et,Int.add_mul,Int.one_mul]; omega
    rw [e2]
    show cr c qs (k + 1) * b = _
    generalize cr c qs (k + 1) = x
    generalize cr c qs k = y
    rw [Int.sub_mul]
    omega
theorem seg {t b : Int} {n : Nat} (hb : 0 < b) (hn : 2 ≤ n) (h0 : 0 ≤ t) (h1 : t ≤ ((n : Int) - 1) * b) : ∃ k : Nat,k + 1 < n ∧ (k : Int) * b ≤ t ∧ t ≤ ((k : Int) + 1) * b := by
  have q0 := fl_nn hb h0
  have q1 := fl_le (a := t) hb
  have q2 := fl_lt (a := t) hb
  by_cases h : t / b < (n : Int) - 1
  · refine ⟨(t / b).toNat,by omega,?_,?_⟩
    · rw [show (((t / b).toNat : Nat) : Int) = t / b by omega]; exact q1
    · rw [show (((t / b).toNat : Nat) : Int) = t / b by omega]; omega
  · have e : ((n - 2 : Nat) : Int) = (n : Int) - 2 := by omega
    refine ⟨n - 2,by omega,?_,?_⟩
    · rw [e]
      have h3 : ((n : Int) - 2) * b ≤ t / b * b := Int.mul_le_mul_of_nonneg_right (by omega) (by omega)
      omega
    · rw [e,show (n : Int) - 2 + 1 = (n : Int) - 1 by omega]
      exact h1
def rq (a b : Int) : Rat := (a : Rat) / (b : Rat)
theorem cz {a : Int} (h : a ≠ 0) : (a : Rat) ≠ 0 := fun z => h (Rat.intCast_eq_zero_iff.mp z)
theorem rq_of {m n u v : Int} (f : Frac m n u v) (hn : n ≠ 0) : rq u v = rq m n := by
  have h1 : (m : Rat) * (v : Rat) = (u : Rat) * (n : Rat) := by rw [← Rat.intCast_mul,← Rat.intCast_mul,f.eq]
  have h2 := cz hn
  have h3 := cz (show v ≠ 0 by have := f.low.pos; omega)
  unfold rq
  grind
theorem rq_eq {u v m n : Int} (hv : v ≠ 0) (hn : n ≠ 0) (h : rq u v = rq m n) : u * n = m * v := by
  have h2 := cz hn
  have h3 := cz hv
  unfold rq at h
  have h1 : (u : Rat) * (n : Rat) = (m : Rat) * (v : Rat) := by grind
  rw [← Rat.intCast_mul,← Rat.intCast_mul] at h1
  exact Rat.intCast_inj.mp h1
theorem rq_sub {a b c d : Int} (hb : b ≠ 0) (hd : d ≠ 0) : rq (a * d - c * b) (b * d) = rq a b - rq c d := by
  have := cz hb
  have := cz hd
  unfold rq
  rw [Rat.intCast_sub,Rat.intCast_mul,Rat.intCast_mul,Rat.intCast_mul]
  grind
theorem rq_add {a b c d : Int} (hb : b ≠ 0) (hd : d ≠ 0) : rq (a * d + c * b) (b * d) = rq a b + rq c d := by
  have := cz hb
  have := cz hd
  unfold rq
  rw [Rat.intCast_add,Rat.intCast_mul,Rat.intCast_mul,Rat.intCast_mul]
  grind
theorem rq_mul {a b c d : Int} : rq (a * c) (b * d) = rq a b * rq c d := by
  unfold rq
  rw [Rat.intCast_mul,Rat.intCast_mul]
  grind
theorem rq_div {a b c d : Int} : rq (a * d) (b * c) = rq a b / rq c d := by
  unfold rq
  rw [Rat.intCast_mul,Rat.intCast_mul]
  grind
theorem f_sub {a b c d s w : Int} (hb : b ≠ 0) (hd : d ≠ 0) (f : Frac (a * d - c * b) (b * d) s w) : rq s w = rq a b - rq c d := by
  rw [rq_of f (Int.mul_ne_zero hb hd),rq_sub hb hd]
theorem f_add {a b c d s w : Int} (hb : b ≠ 0) (hd : d ≠ 0) (f : Frac (a * d + c * b) (b * d) s w) : rq s w = rq a b + rq c d := by
  rw [rq_of f (Int.mul_ne_zero hb hd),rq_add hb hd]
theorem f_mul {a b c d s w : Int} (hb : b ≠ 0) (hd : d ≠ 0) (f : Frac (a * c) (b * d) s w) : rq s w = rq a b * rq c d := by
  rw [rq_of f (Int.mul_ne_zero hb hd),rq_mul]
theorem f_div {a b c d s w : Int} (hb : b ≠ 0) (hc : c ≠ 0) (f : Frac (a * d) (b * c) s w) : rq s w = rq a b / rq c d := by
  rw [rq_of f (Int.mul_ne_zero hb hc),rq_div]
theorem nzl {a b : Int} (h : Low a b) : b ≠ 0 := by have := h.pos; omega
theorem frac_bits {m n u v : Int} {i j : Nat} (hn : 0 < n) (f : Frac m n u v) (hm : bits m ≤ i) (hj : bits n ≤ j) : bits u ≤ i ∧ bits v ≤ j := by
  have hg := gcd_pos (a := m) (b := n) (by omega)
  obtain ⟨e1,e2⟩ := frac_unique (by omega) f (frac_pos hn)
  subst e1 e2
  exact ⟨bits_ediv hg hm,bits_ediv hg hj⟩
def nM (X Y b X1 Y1 b1 X2 Y2 b2 : Int) : Int := ((X2 * b1 - X1 * b2) * (X * b1 - X1 * b) + (Y2 * b1 - Y1 * b2) * (Y * b1 - Y1 * b)) * b2
def nN (b X1 Y1 b1 X2 Y2 b2 : Int) : Int := b * ((X2 * b1 - X1 * b2) * (X2 * b1 - X1 * b2) + (Y2 * b1 - Y1 * b2) * (Y2 * b1 - Y1 * b2))
theorem rat_near {x y z X1 Y1 z1 X2 Y2 z2 : Rat} (hz : z ≠ 0) (h1 : z1 ≠ 0) (h2 : z2 ≠ 0) (hN : z * ((X2 * z1 - X1 * z2) * (X2 * z1 - X1 * z2) + (Y2 * z1 - Y1 * z2) * (Y2 * z1 - Y1 * z2)) ≠ 0) :
    ((x / z - X1 / z1) * (X2 / z2 - X1 / z1) + (y / z - Y1 / z1) * (Y2 / z2 - Y1 / z1)) / ((X2 / z2 - X1 / z1) * (X2 / z2 - X1 / z1) + (Y2 / z2 - Y1 / z1) * (Y2 / z2 - Y1 / z1)) =
      (((X2 * z1 - X1 * z2) * (x * z1 - X1 * z) + (Y2 * z1 - Y1 * z2) * (y * z1 - Y1 * z)) * z2) / (z * ((X2 * z1 - X1 * z2) * (X2 * z1 - X1 * z2) + (Y2 * z1 - Y1 * z2) * (Y2 * z1 - Y1 * z2))) := by
  have k1 : x = x / z * z := by grind
  have k2 : y = y / z * z := by grind
  have k3 : X1 = X1 / z1 * z1 := by grind
  have k4 : Y1 = Y1 / z1 * z1 := by grind
  have k5 : X2 = X2 / z2 * z2 := by grind
  have k6 : Y2 = Y2 / z2 * z2 := by grind
  generalize x / z = p at *
  generalize y / z = q at *
  generalize X1 / z1 = a at *
  generalize Y1 / z1 = a' at *
  generalize X2 / z2 = c at *
  generalize Y2 / z2 = c' at *
  subst k1 k2 k3 k4 k5 k6
  have m0 : ∀ {u v : Rat},u ≠ 0 → v ≠ 0 → u * v ≠ 0 := fun hu hv z => by
    rcases Rat.mul_eq_zero.mp z with z | z
    · exact hu z
    · exact hv z
  have hK : z * (z1 * z1) * (z2 * z2) ≠ 0 := m0 (m0 hz (m0 h1 h1)) (m0 h2 h2)
  have e1 : ((c * z2 * z1 - a * z1 * z2) * (p * z * z1 - a * z1 * z) + (c' * z2 * z1 - a' * z1 * z2) * (q * z * z1 - a' * z1 * z)) * z2 = (z * (z1 * z1) * (z2 * z2)) * ((p - a) * (c - a) + (q - a') * (c' - a')) := by grind
  have e2 : z * ((c * z2 * z1 - a * z1 * z2) * (c * z2 * z1 - a * z1 * z2) + (c' * z2 * z1 - a' * z1 * z2) * (c' * z2 * z1 - a' * z1 * z2)) = (z * (z1 * z1) * (z2 * z2)) * ((c - a) * (c - a) + (c' - a') * (c' - a')) := by grind
  rw [e2] at hN
  rw [e1,e2]
  generalize (p - a) * (c - a) + (q - a') * (c' - a') = T at *
  generalize (c - a) * (c - a) + (c' - a') * (c' - a') = S at *
  generalize z * (z1 * z1) * (z2 * z2) = k at *
  have hS : S ≠ 0 := fun z => hN (by rw [z,Rat.mul_zero])
  grind
theorem near_eq {X Y b X1 Y1 b1 X2 Y2 b2 u v c d u1 v1 c1 d1 u2 v2 c2 d2 a e a' e' g h g' h' m n m' n' i j m2 n2 m2' n2' i2 j2 s w : Int} (hb : b ≠ 0) (hb1 : b1 ≠ 0) (hb2 : b2 ≠ 0)
    (f1 : Frac X b u v) (f2 : Frac Y b c d) (f3 : Frac X1 b1 u1 v1) (f4 : Frac Y1 b1 c1 d1) (f5 : Frac X2 b2 u2 v2) (f6 : Frac Y2 b2 c2 d2)
    (g1 : Frac (u2 * v1 - u1 * v2) (v2 * v1) a e) (g2 : Frac (c2 * d1 - c1 * d2) (d2 * d1) a' e') (g3 : Frac (u * v1 - u1 * v) (v * v1) g h) (g4 : Frac (c * d1 - c1 * d) (d * d1) g' h')
    (k1 : Frac (g * a) (h * e) m n) (k2 : Frac (g' * a') (h' * e') m' n') (k3 : Frac (m * n' + m' * n) (n * n') i j) (l1 : Frac (a * a) (e * e) m2 n2) (l2 : Frac (a' * a') (e' * e') m2' n2') (l3 : Frac (m2 * n2' + m2' * n2) (n2 * n2') i2 j2)
    (hi : i2 ≠ 0) (fin : Frac (i * j2) (j * i2) s w) (hN : nN b X1 Y1 b1 X2 Y2 b2 ≠ 0) : s * nN b X1 Y1 b1 X2 Y2 b2 = nM X Y b X1 Y1 b1 X2 Y2 b2 * w := by
  refine rq_eq (nzl fin.low) hN ?_
  have q1 := rq_of f1 hb
  have q2 := rq_of f2 hb
  have q3 := rq_of f3 hb1
  have q4 := rq_of f4 hb1
  have q5 := rq_of f5 hb2
  have q6 := rq_of f6 hb2
  have r1 := f_sub (nzl f5.low) (nzl f3.low) g1
  have r2 := f_sub (nzl f6.low) (nzl f4.low) g2
  have r3 := f_sub (nzl f1.low) (nzl f3.low) g3
  have r4 := f_sub (nzl f2.low) (nzl f4.low) g4
  have s1 := f_mul (nzl g3.low) (nzl g1.low) k1
  have s2 := f_mul (nzl g4.low) (nzl g2.low) k2
  have s3 := f_add (nzl k1.low) (nzl k2.low) k3
  have t1 := f_mul (nzl g1.low) (nzl g1.low) l1
  have t2 := f_mul (nzl g2.low) (nzl g2.low) l2
  have t3 := f_add (nzl l1.low) (nzl l2.low) l3
  have w1 := f_div (nzl k3.low) hi fin
  rw [w1,s3,t3,s1,s2,t1,t2,r1,r2,r3,r4,q1,q2,q3,q4,q5,q6]
  have hN' := cz hN
  unfold nN at hN'
  unfold rq nM nN
  simp only [Rat.intCast_mul,Rat.intCast_add,Rat.intCast_sub] at hN' ⊢
  exact rat_near (cz hb) (cz hb1) (cz hb2) hN'
theorem near_pos {X1 Y1 b1 X2 Y2 b2 u1 v1 c1 d1 u2 v2 c2 d2 a e a' e' m2 n2 m2' n2' i2 j2 : Int} (hb1 : 0 < b1) (hb2 : 0 < b2) (f3 : Frac X1 b1 u1 v1) (f4 : Frac Y1 b1 c1 d1) (f5 : Frac X2 b2 u2 v2) (f6 : Frac Y2 b2 c2 d2)
    (g1 : Frac (u2 * v1 - u1 * v2) (v2 * v1) a e) (g2 : Frac (c2 * d1 - c1 * d2) (d2 * d1) a' e') (l1 : Frac (a * a) (e * e) m2 n2) (l2 : Frac (a' * a') (e' * e') m2' n2') (l3 : Frac (m2 * n2' + m2' * n2) (n2 * n2') i2 j2)
    (hS : 0 < (X2 * b1 - X1 * b2) * (X2 * b1 - X1 * b2) + (Y2 * b1 - Y1 * b2) * (Y2 * b1 - Y1 * b2)) : 0 < i2 := by
  have f := sq_frac f3 f4 f5 f6 g1 g2 l1 l2 l3
  have e := f.eq
  unfold sqN at e
  have hj := f.low.pos
  have hd : 0 < sqD b1 b2 := Int.mul_pos (Int.mul_pos hb1 hb2) (Int.mul_pos hb1 hb2)
  have h : 0 < i2 * sqD b1 b2 := by rw [← e]; exact Int.mul_pos hS (by omega)
  exact Int.pos_of_mul_pos_left h hd
def cX (qs : Crn) (k : Nat) : Int := (qs.getD k (0,0,0)).2.1
def cY (qs : Crn) (k : Nat) : Int := (qs.getD k (0,0,0)).2.2
def dL (dx dy : Int) : Int := dx * dx + dy * dy
def dA (X Y b bx by_ dx dy : Int) : Int := (X - bx * b) * dx + (Y - by_ * b) * dy
structure Str_ (n k : Nat) (l1 l2 h1 h2 : Int) : Prop where
  kn : k + 1 < n
  lo : (k : Int) * l2 ≤ l1
  lt : l1 * h2 < h1 * l2
  hi : h1 ≤ ((k : Int) + 1) * h2
def Cl (L al b lu l2 hu h2 Tu B : Int) : Prop := (Tu = lu ∧ B = l2 ∧ (L = 0 ∨ al * l2 < lu * (L * b))) ∨ (Tu = hu ∧ B = h2 ∧ L ≠ 0 ∧ ¬ al * l2 < lu * (L * b) ∧ hu * (L * b) < al * h2) ∨
  (L ≠ 0 ∧ ¬ al * l2 < lu * (L * b) ∧ ¬ hu * (L * b) < al * h2 ∧ Tu * (L * b) = al * B)
def kL (qs : Crn) (k : Nat) : Int := dL (cX qs (k + 1) - cX qs k) (cY qs (k + 1) - cY qs k)
def kA (X Y b : Int) (qs : Crn) (k : Nat) : Int := dA X Y b (cX qs k) (cY qs k) (cX qs (k + 1) - cX qs k) (cY qs (k + 1) - cY qs k)
def LPc (X Y b : Int) (qs : Crn) (l1 l2 h1 h2 T B : Int) : Prop := (l1 = h1 ∧ l2 = h2 ∧ T = l1 ∧ B = l2) ∨
  ∃ k : Nat,Str_ qs.length k l1 l2 h1 h2 ∧ Cl (kL qs k) (kA X Y b qs k) b (l1 - (k : Int) * l2) l2 (h1 - (k : Int) * h2) h2 (T - (k : Int) * B) B
def InS (n : Nat) (l1 l2 h1 h2 : Int) : Prop := (l1 = h1 ∧ l2 = h2) ∨ ∃ k : Nat,Str_ n k l1 l2 h1 h2
theorem ptX_on {qs : Crn} {t b : Int} {k : Nat} (hb : 0 < b) (hk : k + 1 < qs.length) (h1 : (k : Int) * b ≤ t) (h2 : t ≤ ((k : Int) + 1) * b) : ptX qs t b = cX qs k * b + (cX qs (k + 1) - cX qs k) * (t - (k : Int) * b) := pt_on (c := fun z => z.1) hb hk h1 h2
theorem ptY_on {qs : Crn} {t b : Int} {k : Nat} (hb : 0 < b) (hk : k + 1 < qs.length) (h1 : (k : Int) * b ≤ t) (h2 : t ≤ ((k : Int) + 1) * b) : ptY qs t b = cY qs k * b + (cY qs (k + 1) - cY qs k) * (t - (k : Int) * b) := pt_on (c := fun z => z.2) hb hk h1 h2
theorem nM_on {X Y b bx by_ dx dy lu l2 hu h2 : Int} : nM X Y b (bx * l2 + dx * lu) (by_ * l2 + dy * lu) l2 (bx * h2 + dx * hu) (by_ * h2 + dy * hu) h2 = (hu * l2 - lu * h2) * h2 * (l2 * dA X Y b bx by_ dx dy - lu * (dL dx dy * b)) := by
  unfold nM dA dL
  grind
theorem nN_on {b bx by_ dx dy lu l2 hu h2 : Int} : nN b (bx * l2 + dx * lu) (by_ * l2 + dy * lu) l2 (bx * h2 + dx * hu) (by_ * h2 + dy * hu) h2 = b * ((hu * l2 - lu * h2) * (hu * l2 - lu * h2) * dL dx dy) := by
  unfold nN dL
  grind
theorem pl_eq {l1 l2 h1 h2 s w a e m n T B : Int} (hl : l2 ≠ 0) (hh : h2 ≠ 0) (hw : w ≠ 0) (f1 : Frac (h1 * l2 - l1 * h2) (h2 * l2) a e) (f2 : Frac (s * a) (w * e) m n) (f3 : Frac (l1 * n + m * l2) (l2 * n) T B) : rq T B = rq l1 l2 + rq s w * (rq h1 h2 - rq l1 l2) := by
  rw [f_add hl (nzl f2.low) f3,f_mul hw (nzl f1.low) f2,f_sub hh hl f1]
theorem rq01 : rq 0 1 = 0 := by decide +kernel
theorem rq11 : rq 1 1 = 1 := by decide +kernel
theorem pl_lo {l1 l2 h1 h2 a e m n T B : Int} (Ll : Low l1 l2) (hh : h2 ≠ 0) (f1 : Frac (h1 * l2 - l1 * h2) (h2 * l2) a e) (f2 : Frac (0 * a) (1 * e) m n) (f3 : Frac (l1 * n + m * l2) (l2 * n) T B) : T = l1 ∧ B = l2 := by
  have e := pl_eq (nzl Ll) hh (by decide) f1 f2 f3
  rw [rq01,Rat.zero_mul,Rat.add_zero] at e
  exact low_unique f3.low Ll (rq_eq (nzl f3.low) (nzl Ll) e)
theorem pl_hi {l1 l2 h1 h2 a e m n T B : Int} (hl : l2 ≠ 0) (Lh : Low h1 h2) (f1 : Frac (h1 * l2 - l1 * h2) (h2 * l2) a e) (f2 : Frac (1 * a) (1 * e) m n) (f3 : Frac (l1 * n + m * l2) (l2 * n) T B) : T = h1 ∧ B = h2 := by
  have e := pl_eq hl (nzl Lh) (by decide) f1 f2 f3
  rw [rq11,Rat.one_mul,show rq l1 l2 + (rq h1 h2 - rq l1 l2) = rq h1 h2 by grind] at e
  exact low_unique f3.low Lh (rq_eq (nzl f3.low) (nzl Lh) e)
theorem pl_mid {l1 l2 h1 h2 s w a e m n T B k L al b : Int} (hl : 0 < l2) (hh : 0 < h2) (hw : w ≠ 0) (hL : 0 < L) (hb : 0 < b) (hd : 0 < h1 * l2 - l1 * h2) (f1 : Frac (h1 * l2 - l1 * h2) (h2 * l2) a e) (f2 : Frac (s * a) (w * e) m n) (f3 : Frac (l1 * n + m * l2) (l2 * n) T B)
    (hs : s * (b * ((h1 * l2 - l1 * h2) * (h1 * l2 - l1 * h2) * L)) = (h1 * l2 - l1 * h2) * h2 * (l2 * al - (l1 - k * l2) * (L * b)) * w) : (T - k * B) * (L * b) = al * B := by
  have e := pl_eq (by omega) (by omega) hw f1 f2 f3
  have hB := nzl f3.low
  have hBq := cz hB
  have q1 := cz (show l2 ≠ 0 by omega)
  have q2 := cz (show h2 ≠ 0 by omega)
  have q3 := cz hw
  have q4 := cz (show L ≠ 0 by omega)
  have q5 := cz (show b ≠ 0 by omega)
  have q6 := cz (show h1 * l2 - l1 * h2 ≠ 0 by omega)
  have e2 : rq h1 h2 - rq l1 l2 = ((h1 * l2 - l1 * h2 : Int) : Rat) * ((h2 : Rat)⁻¹ * (l2 : Rat)⁻¹) := by
    unfold rq
    rw [Rat.intCast_sub,Rat.intCast_mul,Rat.intCast_mul]
    grind
  rw [e2] at e
  generalize h1 * l2 - l1 * h2 = D at *
  have hs' : (s : Rat) * (b * (D * D * L)) = D * h2 * (l2 * al - (l1 - k * l2) * (L * b)) * w := by
    have := congrArg (fun z : Int => (z : Rat)) hs
    simpa only [Rat.intCast_mul,Rat.intCast_sub] using this
  have e3 : rq s w * D = h2 * (l2 * al - (l1 - k * l2) * (L * b)) * ((L : Rat)⁻¹ * (b : Rat)⁻¹) := by
    unfold rq
    grind
  have e4 : rq T B = k + al * ((L : Rat)⁻¹ * (b : Rat)⁻¹) := by
    rw [e,show rq s w * (D * ((h2 : Rat)⁻¹ * (l2 : Rat)⁻¹)) = (rq s w * D) * ((h2 : Rat)⁻¹ * (l2 : Rat)⁻¹) by grind,e3]
    unfold rq
    grind
  have e5 : (T - k * B) * ((L : Rat) * b) = al * (B : Rat) := by
    unfold rq at e4
    grind
  have e6 : (((T - k * B) * (L * b) : Int) : Rat) = ((al * B : Int) : Rat) := by
    simp only [Rat.intCast_mul,Rat.intCast_sub]
    exact e5
  exact Rat.intCast_inj.mp e6
theorem sqS (X Y b bx by_ dx dy u B : Int) : sqN X Y b (bx * B + dx * u) (by_ * B + dy * u) B = B * B * ((X - bx * b) * (X - bx * b) + (Y - by_ * b) * (Y - by_ * b)) - 2 * B * u * b * dA X Y b bx by_ dx dy + u * u * b * b * dL dx dy := by
  unfold sqN dA dL
  grind
theorem le_prod {D E : Int} (h : (0 ≤ D ∧ 0 ≤ E) ∨ (D ≤ 0 ∧ E ≤ 0)) : 0 ≤ D * E := by
  rcases h with ⟨h1,h2⟩ | ⟨h1,h2⟩
  · exact Int.mul_nonneg h1 h2
  · have := Int.mul_nonneg (show 0 ≤ -D by omega) (show 0 ≤ -E by omega)
    rwa [Int.neg_mul_neg] at this
theorem cl_min {L al b lu l2 hu h2 u B um Bm : Int} (hb : 0 < b) (hl : 0 < l2) (hh : 0 < h2) (hB : 0 < B) (hm : 0 < Bm) (hL : 0 ≤ L) (zL : L = 0 → al = 0) (h : Cl L al b lu l2 hu h2 u B) (m1 : lu * Bm ≤ um * l2) (m2 : um * h2 ≤ hu * Bm) :
    0 ≤ (B * um - Bm * u) * (b * L * (B * um + Bm * u) - 2 * B * Bm * al) := by
  have zero : L = 0 → 0 ≤ (B * um - Bm * u) * (b * L * (B * um + Bm * u) - 2 * B * Bm * al) := fun z => by
    rw [zL z,z]
    simp
  have bL : 0 ≤ b * L := Int.mul_nonneg (by omega) hL
  rcases h with ⟨rfl,rfl,h | h⟩ | ⟨rfl,rfl,h0,_,h⟩ | ⟨h0,_,_,h⟩
  · exact zero h
  · refine le_prod (.inl ⟨by have := Int.mul_comm u Bm; have := Int.mul_comm um B; omega,?_⟩)
    have a1 := Int.mul_le_mul_of_nonneg_left (Int.le_of_lt h) (show 0 ≤ Bm by omega)
    have a2 := Int.mul_le_mul_of_nonneg_left m1 bL
    grind
  · refine le_prod (.inr ⟨by have := Int.mul_comm u Bm; have := Int.mul_comm um B; omega,?_⟩)
    have a1 := Int.mul_le_mul_of_nonneg_left (Int.le_of_lt h) (show 0 ≤ Bm by omega)
    have a2 := Int.mul_le_mul_of_nonneg_left m2 bL
    grind
  · have hLb : 0 < L * b := Int.mul_pos (by omega) hb
    have e : (L * b) * ((B * um - Bm * u) * (b * L * (B * um + Bm * u) - 2 * B * Bm * al)) = (B * (um * (L * b) - Bm * al)) * (B * (um * (L * b) - Bm * al)) := by
      have e1 : (B * um - Bm * u) * (L * b) = B * um * (L * b) - Bm * (u * (L * b)) := by grind
      have e2 : b * L * (B * um + Bm * u) - 2 * B * Bm * al = B * um * (L * b) + Bm * (u * (L * b)) - 2 * B * Bm * al := by grind
      rw [e2,show (L * b) * ((B * um - Bm * u) * (B * um * (L * b) + Bm * (u * (L * b)) - 2 * B * Bm * al)) = ((B * um - Bm * u) * (L * b)) * (B * um * (L * b) + Bm * (u * (L * b)) - 2 * B * Bm * al) by grind,e1,h]
      grind
    have : 0 ≤ (L * b) * ((B * um - Bm * u) * (b * L * (B * um + Bm * u) - 2 * B * Bm * al)) := by rw [e]; exact le_prod (by omega)
    exact Int.nonneg_of_mul_nonneg_right this hLb
theorem kL_nn (qs : Crn) (k : Nat) : 0 ≤ kL qs k := by
  unfold kL dL
  have h1 : ∀ x : Int,0 ≤ x * x := fun x => le_prod (by omega)
  have := h1 (cX qs (k + 1) - cX qs k)
  have := h1 (cY qs (k + 1) - cY qs k)
  omega
theorem sq_zero {x y : Int} (h : x * x + y * y = 0) : x = 0 ∧ y = 0 := by
  have h1 : ∀ x : Int,0 ≤ x * x := fun x => le_prod (by omega)
  have a := h1 x
  have b := h1 y
  constructor
  · have : x * x = 0 := by omega
    rcases Int.mul_eq_zero.mp this with z | z <;> exact z
  · have : y * y = 0 := by omega
    rcases Int.mul_eq_zero.mp this with z | z <;> exact z
theorem kA_zero {X Y b : Int} {qs : Crn} {k : Nat} (h : kL qs k = 0) : kA X Y b qs k = 0 := by
  obtain ⟨h1,h2⟩ := sq_zero (h : (cX qs (k + 1) - cX qs k) * (cX qs (k + 1) - cX qs k) + (cY qs (k + 1) - cY qs k) * (cY qs (k + 1) - cY qs k) = 0)
  unfold kA dA
  rw [h1,h2]
  simp
theorem eq_min {N D s w : Int} (e : N * w = s * D) : ¬ N * w < s * D := by omega
theorem min_ok {qs qs' : Crn} {t b l1 l2 h1 h2 T B m1 m2 s w : Int} (hb : 0 < b) (Ll : Low l1 l2) (Lh : Low h1 h2) (hB : Low T B) (hm : Low m1 m2) (h : LPc (ptX qs t b) (ptY qs t b) b qs' l1 l2 h1 h2 T B) (a1 : l1 * m2 ≤ m1 * l2) (a2 : m1 * h2 ≤ h1 * m2) (f : Frac (sqF qs t b qs' T B) (sqD b B) s w)
    (t0 : l1 * B ≤ T * l2) (t1 : T * h2 ≤ h1 * B) : ¬ sqF qs t b qs' m1 m2 * w < s * sqD b m2 := by
  have hB := hB.pos
  have hl := Ll.pos
  have hh := Lh.pos
  rcases h with ⟨rfl,rfl,rfl,rfl⟩ | ⟨k,st,cl⟩
  · obtain ⟨rfl,rfl⟩ := low_unique hm Ll (by omega)
    exact eq_min f.eq
  · have hm := hm.pos
    have i1 : ∀ {u v : Int},0 < v → l1 * v ≤ u * l2 → (k : Int) * v ≤ u := fun {u v} hv z => by
      have z1 := Int.mul_le_mul_of_nonneg_right st.lo (show 0 ≤ v by omega)
      have : (k : Int) * v * l2 ≤ u * l2 := by grind
      exact Int.le_of_mul_le_mul_right this (by omega)
    have i2 : ∀ {u v : Int},0 < v → u * h2 ≤ h1 * v → u ≤ ((k : Int) + 1) * v := fun {u v} hv z => by
      have z1 := Int.mul_le_mul_of_nonneg_right st.hi (show 0 ≤ v by omega)
      have : u * h2 ≤ ((k : Int) + 1) * v * h2 := by grind
      exact Int.le_of_mul_le_mul_right this (by omega)
    have e := f.eq
    have hw := f.low.pos
    unfold sqF at e ⊢
    rw [ptX_on (by omega) st.kn (i1 (by omega) t0) (i2 (by omega) t1),ptY_on (by omega) st.kn (i1 (by omega) t0) (i2 (by omega) t1),sqS] at e
    rw [ptX_on (by omega) st.kn (i1 (by omega) a1) (i2 (by omega) a2),ptY_on (by omega) st.kn (i1 (by omega) a1) (i2 (by omega) a2),sqS]
    have z := cl_min (um := m1 - (k : Int) * m2) (Bm := m2) hb (by omega) (by omega) (by omega) (by omega) (kL_nn qs' k) kA_zero cl (by grind) (by grind)
    change _ * w = _ at e
    unfold kA kL at z
    generalize dA (ptX qs t b) (ptY qs t b) b (cX qs' k) (cY qs' k) (cX qs' (k + 1) - cX qs' k) (cY qs' (k + 1) - cY qs' k) = al at *
    generalize dL (cX qs' (k + 1) - cX qs' k) (cY qs' (k + 1) - cY qs' k) = L at *
    generalize (ptX qs t b - cX qs' k * b) * (ptX qs t b - cX qs' k * b) + (ptY qs t b - cY qs' k * b) * (ptY qs t b - cY qs' k * b) = G at *
    generalize T - (k : Int) * B = u at *
    generalize m1 - (k : Int) * m2 = um at *
    unfold sqD at e ⊢
    intro c
    have z2 : 0 ≤ b * ((B * um - m2 * u) * (b * L * (B * um + m2 * u) - 2 * B * m2 * al)) := Int.mul_nonneg (by omega) z
    have z3 : (B * B * G - 2 * B * u * b * al + u * u * b * b * L) * (m2 * m2) ≤ (m2 * m2 * G - 2 * m2 * um * b * al + um * um * b * b * L) * (B * B) := by grind
    generalize B * B * G - 2 * B * u * b * al + u * u * b * b * L = NT at *
    generalize m2 * m2 * G - 2 * m2 * um * b * al + um * um * b * b * L = Nm at *
    have hp : 0 < b * b := Int.mul_pos hb hb
    have c2 := Int.mul_lt_mul_of_pos_right c (Int.mul_pos hp (Int.mul_pos (show 0 < B by omega) (show 0 < B by omega)))
    have z4 := Int.mul_le_mul_of_nonneg_right z3 (show 0 ≤ b * b * w from Int.mul_nonneg (by omega) (by omega))
    have e2 : s * (b * m2 * (b * m2)) * (b * b * (B * B)) = NT * w * (m2 * m2) * (b * b) := by rw [e]; grind
    have e3 : Nm * w * (b * b * (B * B)) = Nm * (B * B) * (b * b * w) := by grind
    have e4 : NT * (m2 * m2) * (b * b * w) = NT * w * (m2 * m2) * (b * b) := by grind
    omega
def NP (X Y b X1 Y1 b1 X2 Y2 b2 s w : Int) : Prop := ((X1 * b2 = X2 * b1 ∧ Y1 * b2 = Y2 * b1) ∧ s = 0 ∧ w = 1) ∨
  (0 < nN b X1 Y1 b1 X2 Y2 b2 ∧ ((nM X Y b X1 Y1 b1 X2 Y2 b2 < 0 ∧ s = 0 ∧ w = 1) ∨ (nN b X1 Y1 b1 X2 Y2 b2 < nM X Y b X1 Y1 b1 X2 Y2 b2 ∧ s = 1 ∧ w = 1) ∨
    (0 ≤ nM X Y b X1 Y1 b1 X2 Y2 b2 ∧ nM X Y b X1 Y1 b1 X2 Y2 b2 ≤ nN b X1 Y1 b1 X2 Y2 b2 ∧ 0 < w ∧ s * nN b X1 Y1 b1 X2 Y2 b2 = nM X Y b X1 Y1 b1 X2 Y2 b2 * w)))
theorem np_lt {s w M N : Int} (hw : 0 < w) (hN : 0 < N) (e : s * N = M * w) : (s < 0 ↔ M < 0) ∧ (w < s ↔ N < M) := by
  have sg : ∀ {a c : Int},0 < c → (a < 0 ↔ a * c < 0) := fun {a c} hc => ⟨fun h => Int.mul_neg_of_neg_of_pos h hc,fun h => by
    by_cases z : a < 0
    · exact z
    · exact absurd h (by have := Int.mul_nonneg (show 0 ≤ a by omega) (show 0 ≤ c by omega); omega)⟩
  constructor
  · rw [sg hN,e,← sg hw]
  · have h1 : w < s ↔ (w - s) * N < 0 := by rw [← sg hN]; omega
    have h2 : N < M ↔ (N - M) * w < 0 := by rw [← sg hw]; omega
    rw [h1,h2,Int.sub_mul,Int.sub_mul,e,Int.mul_comm w N]
theorem least_ok {X Y b : Int} {qs : Crn} {l1 l2 h1 h2 s w a e m n T B : Int} (hb : 0 < b) (Ll : Low l1 l2) (Lh : Low h1 h2) (ins : InS qs.length l1 l2 h1 h2) (np : NP X Y b (ptX qs l1 l2) (ptY qs l1 l2) l2 (ptX qs h1 h2) (ptY qs h1 h2) h2 s w)
    (f1 : Frac (h1 * l2 - l1 * h2) (h2 * l2) a e) (f2 : Frac (s * a) (w * e) m n) (f3 : Frac (l1 * n + m * l2) (l2 * n) T B) : LPc X Y b qs l1 l2 h1 h2 T B ∧ l1 * B ≤ T * l2 ∧ T * h2 ≤ h1 * B := by
  have hl := Ll.pos
  have hh := Lh.pos
  rcases ins with ⟨rfl,rfl⟩ | ⟨k,st⟩
  · rcases np with ⟨_,rfl,rfl⟩ | ⟨h,_⟩
    · obtain ⟨rfl,rfl⟩ := pl_lo Ll (nzl Ll) f1 f2 f3
      exact ⟨.inl ⟨rfl,rfl,rfl,rfl⟩,Int.le_refl _,Int.le_refl _⟩
    · unfold nN at h
      simp at h
  have hlt := st.lt
  have up : l1 ≤ ((k : Int) + 1) * l2 := by
    have a : l1 * h2 ≤ ((k : Int) + 1) * l2 * h2 := by
      have := Int.mul_le_mul_of_nonneg_right st.hi (show 0 ≤ l2 by omega)
      grind
    exact Int.le_of_mul_le_mul_right a (by omega)
  have lo : (k : Int) * h2 ≤ h1 := by
    have a : (k : Int) * h2 * l2 ≤ h1 * l2 := by
      have := Int.mul_le_mul_of_nonneg_right st.lo (show 0 ≤ h2 by omega)
      grind
    exact Int.le_of_mul_le_mul_right a (by omega)
  unfold NP at np
  rw [ptX_on (by omega) st.kn st.lo up,ptY_on (by omega) st.kn st.lo up,ptX_on (by omega) st.kn lo st.hi,ptY_on (by omega) st.kn lo st.hi,nN_on,nM_on] at np
  have eD : (h1 - (k : Int) * h2) * l2 - (l1 - (k : Int) * l2) * h2 = h1 * l2 - l1 * h2 := by grind
  rw [eD] at np
  have hD : 0 < h1 * l2 - l1 * h2 := by omega
  have lowC : (kL qs k = 0 ∨ kA X Y b qs k * l2 < (l1 - (k : Int) * l2) * (kL qs k * b)) → s = 0 → w = 1 → LPc X Y b qs l1 l2 h1 h2 T B ∧ l1 * B ≤ T * l2 ∧ T * h2 ≤ h1 * B := fun c es ew => by
    subst es ew
    obtain ⟨rfl,rfl⟩ := pl_lo Ll (nzl Lh) f1 f2 f3
    exact ⟨.inr ⟨k,st,.inl ⟨rfl,rfl,c⟩⟩,Int.le_refl _,by omega⟩
  rcases np with ⟨⟨e1,e2⟩,es,ew⟩ | ⟨hN,np⟩
  · refine lowC (.inl ?_) es ew
    have g : ∀ {x d : Int},(x * l2 + d * (l1 - (k : Int) * l2)) * h2 = (x * h2 + d * (h1 - (k : Int) * h2)) * l2 → d = 0 := fun {x d} h => by
      have : d * (h1 * l2 - l1 * h2) = 0 := by grind
      rcases Int.mul_eq_zero.mp this with z | z
      · exact z
      · omega
    unfold kL dL
    rw [g e1,g e2]
    rfl
  have hL : 0 < kL qs k := by
    have h := kL_nn qs k
    by_cases z : kL qs k = 0
    · unfold kL at z
      rw [z] at hN
      simp at hN
    · omega
  have hal : kA X Y b qs k = dA X Y b (cX qs k) (cY qs k) (cX qs (k + 1) - cX qs k) (cY qs (k + 1) - cY qs k) := rfl
  have hkl : kL qs k = dL (cX qs (k + 1) - cX qs k) (cY qs (k + 1) - cY qs k) := rfl
  rw [← hal,← hkl] at np
  have sgn : ∀ {D x : Int},0 < D → (D * x < 0 ↔ x < 0) := fun {D x} hd => ⟨fun h => by
    by_cases z : x < 0
    · exact z
    · exact absurd h (by have := Int.mul_nonneg (show 0 ≤ D by omega) (show 0 ≤ x by omega); omega),fun h => Int.mul_neg_of_pos_of_neg hd h⟩
  have hDh : 0 < (h1 * l2 - l1 * h2) * h2 := Int.mul_pos hD (by omega)
  have hDl : 0 < (h1 * l2 - l1 * h2) * l2 := Int.mul_pos hD (by omega)
  have cM : (h1 * l2 - l1 * h2) * h2 * (l2 * kA X Y b qs k - (l1 - (k : Int) * l2) * (kL qs k * b)) < 0 ↔ kA X Y b qs k * l2 < (l1 - (k : Int) * l2) * (kL qs k * b) := by
    rw [sgn hDh,Int.mul_comm l2]
    omega
  have cN : b * ((h1 * l2 - l1 * h2) * (h1 * l2 - l1 * h2) * kL qs k) < (h1 * l2 - l1 * h2) * h2 * (l2 * kA X Y b qs k - (l1 - (k : Int) * l2) * (kL qs k * b)) ↔ (h1 - (k : Int) * h2) * (kL qs k * b) < kA X Y b qs k * h2 := by
    have z : b * ((h1 * l2 - l1 * h2) * (h1 * l2 - l1 * h2) * kL qs k) - (h1 * l2 - l1 * h2) * h2 * (l2 * kA X Y b qs k - (l1 - (k : Int) * l2) * (kL qs k * b)) = (h1 * l2 - l1 * h2) * l2 * ((h1 - (k : Int) * h2) * (kL qs k * b) - kA X Y b qs k * h2) := by grind
    have y := sgn (x := (h1 - (k : Int) * h2) * (kL qs k * b) - kA X Y b qs k * h2) hDl
    rw [← z] at y
    omega
  have nneg : ∀ {x : Int},0 ≤ x → ¬ x < 0 := fun h => by omega
  rcases np with ⟨h,es,ew⟩ | ⟨h,es,ew⟩ | ⟨h,h',hw,es⟩
  · exact lowC (.inr (cM.mp h)) es ew
  · subst es ew
    obtain ⟨rfl,rfl⟩ := pl_hi (nzl Ll) Lh f1 f2 f3
    refine ⟨.inr ⟨k,st,.inr (.inl ⟨rfl,rfl,by omega,fun c => ?_,cN.mp h⟩)⟩,by omega,Int.le_refl _⟩
    have := cM.mpr c
    have hN' : 0 < b * ((T * l2 - l1 * B) * (T * l2 - l1 * B) * kL qs k) := hN
    omega
  · have c1 : ¬ kA X Y b qs k * l2 < (l1 - (k : Int) * l2) * (kL qs k * b) := fun c => nneg h (cM.mpr c)
    have c2 : ¬ (h1 - (k : Int) * h2) * (kL qs k * b) < kA X Y b qs k * h2 := fun c => by have := cN.mpr c; omega
    have e := pl_mid (k := (k : Int)) (L := kL qs k) (al := kA X Y b qs k) (b := b) (by omega) (by omega) (by omega) hL hb hD f1 f2 f3 es
    have hB := f3.low.pos
    have hLb : 0 < kL qs k * b := Int.mul_pos hL hb
    refine ⟨.inr ⟨k,st,.inr (.inr ⟨by omega,c1,c2,e⟩)⟩,?_,?_⟩
    · have z := Int.mul_le_mul_of_nonneg_right (Int.not_lt.mp c1) (show 0 ≤ B by omega)
      have r1 : (T - (k : Int) * B) * l2 * (kL qs k * b) = kA X Y b qs k * l2 * B := by rw [Int.mul_right_comm,e,Int.mul_right_comm]
      have r2 : (l1 - (k : Int) * l2) * B * (kL qs k * b) = (l1 - (k : Int) * l2) * (kL qs k * b) * B := Int.mul_right_comm _ _ _
      have z2 : (l1 - (k : Int) * l2) * B * (kL qs k * b) ≤ (T - (k : Int) * B) * l2 * (kL qs k * b) := by omega
      have := Int.le_of_mul_le_mul_right z2 hLb
      grind
    · have z := Int.mul_le_mul_of_nonneg_right (Int.not_lt.mp c2) (show 0 ≤ B by omega)
      have r1 : (T - (k : Int) * B) * h2 * (kL qs k * b) = kA X Y b qs k * h2 * B := by rw [Int.mul_right_comm,e,Int.mul_right_comm]
      have r2 : (h1 - (k : Int) * h2) * B * (kL qs k * b) = (h1 - (k : Int) * h2) * (kL qs k * b) * B := Int.mul_right_comm _ _ _
      have z2 : (T - (k : Int) * B) * h2 * (kL qs k * b) ≤ (h1 - (k : Int) * h2) * B * (kL qs k * b) := by omega
      have := Int.le_of_mul_le_mul_right z2 hLb
      grind
theorem kL_bits {H : Hp} {l : Addr} {qs : Crn} (L : LineAt H l qs) (k : Nat) : bits (kL qs k) ≤ 103 := by
  have h1 := crn_bits L k
  have h2 := crn_bits L (k + 1)
  have a := bits_sub h2.1 h1.1
  have b := bits_sub h2.2 h1.2
  exact bits_le (bits_add (bits_mul a a) (bits_mul b b)) (by decide)
theorem lp_bits {H : Hp} {l : Addr} {qs : Crn} {X Y b l1 l2 h1 h2 T B : Int} (L : LineAt H l qs) (h20 : qs.length ≤ 20) (hb : 0 < b) (bb : bits b ≤ 60) (lw : Low T B) (h : LPc X Y b qs l1 l2 h1 h2 T B) (b2 : bits l2 ≤ 60) (b4 : bits h2 ≤ 60) (t0 : 0 ≤ T) (t1 : T ≤ lst_ qs * B) : bits T ≤ 200 ∧ bits B ≤ 163 := by
  have hB := lw.pos
  have b3 : bits B ≤ 163 := by
    rcases h with ⟨_,_,rfl,rfl⟩ | ⟨k,st,⟨_,rfl,_⟩ | ⟨_,rfl,_⟩ | ⟨h0,_,_,e⟩⟩
    · exact bits_le b2 (by decide)
    · exact bits_le b2 (by decide)
    · exact bits_le b4 (by decide)
    · have hL := kL_nn qs k
      have hLb : 0 < kL qs k * b := Int.mul_pos (by omega) hb
      have f : Frac (kA X Y b qs k + (k : Int) * (kL qs k * b)) (kL qs k * b) T B := ⟨lw,by grind⟩
      exact (frac_bits hLb f (Nat.le_refl _) (bits_mul (kL_bits L k) bb)).2
  refine ⟨?_,b3⟩
  have : lst_ qs * B ≤ 20 * B := Int.mul_le_mul_of_nonneg_right (by unfold lst_; omega) (by omega)
  exact bits_le (bits_range t0 (Int.le_trans t1 this) (bits_mul (show bits 20 ≤ 5 by decide) b3)) (by decide)
theorem part_bits {H : Hp} {l : Addr} {qs : Crn} {X Y b l1 l2 h1 h2 s w : Int} {k : Nat} (L : LineAt H l qs) (hb : 0 < b) (hl : 0 < l2) (hh : 0 < h2) (bb : bits b ≤ 60) (b2 : bits l2 ≤ 60) (b4 : bits h2 ≤ 60) (st : Str_ qs.length k l1 l2 h1 h2) (bX : bits X ≤ 262 ∧ bits Y ≤ 262) (lw : Low s w)
    (hN : 0 < nN b (ptX qs l1 l2) (ptY qs l1 l2) l2 (ptX qs h1 h2) (ptY qs h1 h2) h2) (e : s * nN b (ptX qs l1 l2) (ptY qs l1 l2) l2 (ptX qs h1 h2) (ptY qs h1 h2) h2 = nM X Y b (ptX qs l1 l2) (ptY qs l1 l2) l2 (ptX qs h1 h2) (ptY qs h1 h2) h2 * w) : bits s ≤ 900 ∧ bits w ≤ 900 := by
  have hlt := st.lt
  have p1 := pt_bits (t := l1) L hl (bits_le b2 (by decide))
  have p2 := pt_bits (t := h1) L hh (bits_le b4 (by decide))
  have q : ∀ {x : Int} {z : Int},0 < z → bits z ≤ 60 → ∀ {x : Int},bits x ≤ 262 → bits (x * z) ≤ 322 := fun _ hz _ hx => bits_mul hx hz
  have u1 := bits_sub (bits_mul p2.1 b2) (bits_mul p1.1 b4)
  have u2 := bits_sub (bits_mul p2.2 b2) (bits_mul p1.2 b4)
  have v1 := bits_sub (bits_mul bX.1 b2) (bits_mul p1.1 bb)
  have v2 := bits_sub (bits_mul bX.2 b2) (bits_mul p1.2 bb)
  have bM : bits (nM X Y b (ptX qs l1 l2) (ptY qs l1 l2) l2 (ptX qs h1 h2) (ptY qs h1 h2) h2) ≤ 900 := bits_le (bits_mul (bits_add (bits_mul u1 v1) (bits_mul u2 v2)) b4) (by decide)
  have bN : bits (nN b (ptX qs l1 l2) (ptY qs l1 l2) l2 (ptX qs h1 h2) (ptY qs h1 h2) h2) ≤ 900 := bits_le (bits_mul bb (bits_add (bits_mul u1 u1) (bits_mul u2 u2))) (by decide)
  exact frac_bits hN ⟨lw,e.symm⟩ bM bN
end Sp11
namespace L2
open PySem PySem.Spec PyProof.Rows
section
variable {X : Cx}
inductive rCatTA (x : V) (y : V) (H : Hp) (Q : VK) : Prop
  | mk : ∀ l b xs zs,(x = .ref l) → (y = .ref b) → (H l = some (.tup xs)) → (H b = some (.tup zs)) → ((xs ≠ [] ∧ zs ≠ [])) → (xs.length + zs.length ≤ sizeLine) → (∀ p H2,Same H H2 → H2 p = some (.tup (xs ++ zs)) → H p = none → Q (.ref p) H2) → rCatTA x y H Q
theorem op_catTA : OpR X (binaryOp .Add) rCatTA := by
  intro pins s σ H x y v u Q I rx ry h
  obtain ⟨l,b,xs,zs,rfl,rfl,hH,hB,⟨h1,h2⟩,hz,q⟩ := h
  cases rx
  cases ry
  obtain ⟨z,its,r,⟨⟨cls,dd,data,sl⟩,ho,hc,n,hd⟩⟩ := I.hok _ _ hH
  obtain ⟨z2,its2,r2,⟨⟨cls2,dd2,data2,sl2⟩,ho2,hc2,n2,hd2⟩⟩ := I.hok _ _ hB
  simp only at hc hd hc2 hd2
  subst hc hd hc2 hd2
  have l1 := r.length
  have l2 := r2.length
  have n1 : its ≠ [] := fun e => h1 (List.eq_nil_of_length_eq_zero (by rw [l1,e]; rfl))
  have n2' : its2 ≠ [] := fun e => h2 (List.eq_nil_of_length_eq_zero (by rw [l2,e]; rfl))
  have e : its.toArray ++ its2.toArray = (its ++ its2).toArray := by simp
  refine concat_meets ⟨_,ho,rfl⟩ ⟨_,ho2,rfl⟩ noFill_tuple_add seq_tuple_add PySem.F.slot_tuple_add PySem.F.entry_tuple_add (PySem.F.args_tuple_add_2 _ _)
    (tuple_addW2 l b its.toArray its2.toArray n n2 dd dd2 sl sl2 (by simpa using n1) (by simpa using n2') (by rw [List.size_toArray,List.size_toArray]; omega)) ⟨ho,ho2,?_⟩
  rw [e]
  have hf : H s.heap.objs.size = none := I.fresh
  refine ⟨.ref s.heap.objs.size,upd H s.heap.objs.size (.tup (xs ++ zs)),I.laid (t' := s.toks) (fun b u e => Heap.get?_push_of_some _ e) (Nat.le_refl _) ?_,rfl,q _ _ (Same.new hf) upd_same hf⟩
  exact ⟨by rw [List.length_append]; exact hz,its ++ its2,r.append r2,IsTup.new _ _⟩
end
end L2
namespace Hd
open PySem PySem.W PySem.Spec L2
def live (o : Obj) : Bool := match o.data with
  | .freed => false
  | _ => true
def nums : Nat → List Obj → Frag
  | _,[] => []
  | n,a :: r => bif live a then (n,a) :: nums (n + 1) r else nums (n + 1) r
theorem nums_at : ∀ (l : List Obj) (n a : Nat) (o : Obj),(nums n l).lookup a = some o → n ≤ a ∧ l[a - n]? = some o ∧ live o = true
  | [],_,_,_,e => by cases e
  | x :: r,n,a,o,e => by
    have up : (nums (n + 1) r).lookup a = some o → n ≤ a ∧ (x :: r)[a - n]? = some o ∧ live o = true := fun e => by
      obtain ⟨h1,h2,h3⟩ := nums_at r (n + 1) a o e
      refine ⟨by omega,?_,h3⟩
      have : a - n = (a - (n + 1)) + 1 := by omega
      rw [this]
      exact h2
    unfold nums at e
    cases hl : live x with
    | false =>
      rw [hl] at e
      exact up e
    | true =>
      rw [hl,cond_true,List.lookup_cons] at e
      cases hb : a == n with
      | true =>
        rw [hb] at e
        have hb := beq_iff_eq.mp hb
        subst hb
        cases e
        exact ⟨Nat.le_refl _,by simp,hl⟩
      | false =>
        rw [hb] at e
        exact up e
def frag (h : Heap) : Frag := nums 0 h.objs.toList
theorem frag_in (h : Heap) : (frag h).In h := by
  intro a o e
  obtain ⟨_,q,hl⟩ := nums_at _ _ _ _ e
  have q : h.objs[a]? = some o := by simpa using q
  unfold Heap.get?
  rw [q]
  obtain ⟨c,d,dt,sl⟩ := o
  cases dt <;> first | rfl | cases hl
def fnFact (K : Frag) (x : Str) : Option (Arguments × List Stmt × Scope × Value) := match nsIn K mainGlobals x with
  | some (some (.ref f)) => (match K.lookup f with
    | some ⟨_,_,.func fd,_⟩ => (match fd.body,fd.closure with
      | .stmts b,[] => bif (fd.name == x && (fd.qualname == x && (Nat.beq fd.globals mainGlobals && (Nat.beq fd.builtins builtinsNs && codeIn K fd.code x)))) then some (fd.params,b,fd.scope,fd.defaults) else none
      | _,_ => none)
    | _ => none)
  | _ => none
theorem fnFact_spec {K : Frag} {x : Str} {a : Arguments} {b : List Stmt} {sc : Scope} {dv : Value} (e : fnFact K x = some (a,b,sc,dv)) :
    ∃ (f : Addr) (oc : Value) (od : Option Addr) (kV doc pm : Value) (an : Option Addr) (cdv ct : Value) (osl : Array (Option Value)),
      nsIn K mainGlobals x = some (some (.ref f)) ∧ K.lookup f = some ⟨oc,od,.func (fnOf x x a b sc dv kV doc pm an cdv ct),osl⟩ ∧ codeIn K cdv x = true ∧ keepIn K (.ref f) = true := by
  unfold fnFact at e
  split at e
  · rename_i f hf
    split at e
    · rename_i oc od fd osl hl
      split at e
      · rename_i b' hb hc
        cases hq : (fd.name == x && (fd.qualname == x && (Nat.beq fd.globals mainGlobals && (Nat.beq fd.builtins builtinsNs && codeIn K fd.code x)))) with
        | false => rw [hq] at e; cases e
        | true =>
          rw [hq] at e
          simp only [Bool.and_eq_true] at hq
          obtain ⟨h1,h2,h3,h4,h5⟩ := hq
          replace h1 := eq_of_beq h1
          replace h2 := eq_of_beq h2
          replace h3 := Nat.eq_of_beq_eq_true h3
          replace h4 := Nat.eq_of_beq_eq_true h4
          simp only [cond_true,Option.some.injEq,Prod.mk.injEq] at e
          obtain ⟨e1,e2,e3,e4⟩ := e
          obtain ⟨n,qn,ps,bd,s,gl,cl,df,kw,dc,pm,an,cd,ct,bl⟩ := fd
          simp only at h1 h2 h3 h4 h5 e1 e2 e3 e4 hb hc
          subst h1 h2 h3 h4 e1 e2 e3 e4 hb hc
          refine ⟨f,oc,od,kw,dc,pm,an,cd,ct,osl,hf,hl,h5,?_⟩
          unfold keepIn
          dsimp only
          rw [hl]
      · cases e
    · cases e
  · cases e
theorem df_of {K : Frag} {mg : Str → Option Value} {h : Heap} {x : Str} {st : Stmt} (X : K.In h) (G : h.Ns mainGlobals mg) (e : fnFact K x = some (defArgs st,defBody st,defScope st,.none)) : Df K mg x st := by
  obtain ⟨f,oc,od,kV,doc,pm,an,cdv,ct,osl,h1,h2,h3,h4⟩ := fnFact_spec e
  exact df_mk X G h1 h2 h3 h4
def bareV : Value → V
  | .none => .non
  | .bool b => .bl b
  | .int i _ => .int i
  | .str x _ => .str x
  | .bytes b _ => .byt b
  | .float b _ => .flt b
  | .ref a => .ref a
  | .type n => .ty n
  | _ => .ty "no plain value"
def plainV : Value → Bool
  | .ellipsis | .notImplemented | .builtin _ => false
  | _ => true
theorem bareV_rel : ∀ {v : Value},plainV v = true → RelV (bareV v) v
  | .none,_ => rfl
  | .bool _,_ => rfl
  | .int _ t,_ => ⟨t,rfl⟩
  | .str _ t,_ => ⟨t,rfl⟩
  | .bytes _ t,_ => ⟨t,rfl⟩
  | .float _ t,_ => ⟨t,rfl⟩
  | .ref _,_ => rfl
  | .type _,_ => rfl
  | .ellipsis,h => by cases h
  | .notImplemented,h => by cases h
  | .builtin _,h => by cases h
theorem vals_bare : ∀ {l : List Value},l.all plainV = true → Vals (l.map bareV) l
  | [],_ => .nil
  | _ :: _,h => by
    rw [List.all_cons,Bool.and_eq_true] at h
    exact .cons (bareV_rel h.1) (vals_bare h.2)
def seqAt (K : Frag) (v : Value) : Option (List V) := match v with
  | .ref a => (match K.lookup a with
    | some ⟨_,_,.seq its _,_⟩ => bif its.toList.all plainV then some (its.toList.map bareV) else none
    | _ => none)
  | _ => none
theorem seqAt_spec {K : Frag} {v : Value} {ds : List V} (e : seqAt K v = some ds) : ∃ (a : Addr) (o : Obj) (its : List Value) (n : Nat),v = .ref a ∧ K.lookup a = some o ∧ o.data = .seq its.toArray n ∧ Vals ds its := by
  unfold seqAt at e
  split at e
  · rename_i a
    split at e
    · rename_i oc od its n osl hl
      cases hq : its.toList.all plainV with
      | false => rw [hq] at e; cases e
      | true =>
        rw [hq] at e
        cases e
        exact ⟨a,_,its.toList,n,rfl,hl,rfl,vals_bare hq⟩
    · cases e
  · cases e
def fnFactD (K : Frag) (x : Str) : Option (Arguments × List Stmt × Scope × List V) := match fnFact K x with
  | some (a,b,s,dv) => (match seqAt K dv with
    | some ds => some (a,b,s,ds)
    | none => none)
  | none => none
theorem dfd_of {K : Frag} {mg : Str → Option Value} {h : Heap} {x : Str} {st : Stmt} {ds : List V} (X : K.In h) (G : h.Ns mainGlobals mg) (e : fnFactD K x = some (defArgs st,defBody st,defScope st,ds)) : DfD K mg x st ds := by
  unfold fnFactD at e
  split at e
  · rename_i a b s dv hf
    split at e
    · rename_i ds' hs
      simp only [Option.some.injEq,Prod.mk.injEq] at e
      obtain ⟨e1,e2,e3,e4⟩ := e
      subst e1 e2 e3 e4
      obtain ⟨f,oc,od,kV,doc,pm,an,cdv,ct,osl,h1,h2,h3,h4⟩ := fnFact_spec hf
      obtain ⟨T,oT,its,n,rfl,hl,hd,hv⟩ := seqAt_spec hs
      exact dfd_mk X G h1 h2 h3 h4 hl hd hv
    · cases e
  · cases e
def cls (K : Frag) (x : Str) : Addr := match nsIn K mainGlobals x with
  | some (some (.ref C)) => C
  | _ => 0
def excFact (K : Frag) (x : Str) : Bool := match nsIn K mainGlobals x with
  | some (some (.ref C)) => excIn K C [.type "ValueError",.type "Exception",.type "BaseException",.type "object"] "ValueError.__new__"
  | _ => false
theorem exc_of {K : Frag} {mg : Str → Option Value} {h : Heap} {x : Str} (X : K.In h) (G : h.Ns mainGlobals mg) (e : excFact K x = true) : ExcC K mg x (cls K x) := by
  unfold excFact at e
  split at e
  · rename_i C hC
    have : cls K x = C := by unfold cls; rw [hC]
    rw [this]
    exact exc_mk X G hC e
  · cases e
def tupFact (K : Frag) (x : Str) : Option (List V) := match nsIn K mainGlobals x with
  | some (some (.ref a)) => (match K.lookup a with
    | some ⟨.type "tuple",_,.seq its _,_⟩ => bif its.toList.all plainV then some (its.toList.map bareV) else none
    | _ => none)
  | _ => none
theorem tup_of {K : Frag} {x : Str} {ds : List V} (e : tupFact K x = some ds) : ∃ (a : Addr) (od : Option Addr) (its : List Value) (n : Nat) (osl : Array (Option Value)),nsIn K mainGlobals x = some (some (.ref a)) ∧ K.lookup a = some ⟨.type "tuple",od,.seq its.toArray n,osl⟩ ∧ Vals ds its := by
  unfold tupFact at e
  split at e
  · rename_i a ha
    split at e
    · rename_i od its n osl hl
      cases hq : its.toList.all plainV with
      | false => rw [hq] at e; cases e
      | true =>
        rw [hq] at e
        cases e
        exact ⟨a,od,its.toList,n,osl,ha,hl,vals_bare hq⟩
    · cases e
  · cases e
def noFact (K : Frag) (x : Str) : Bool := match nsIn K mainGlobals x with
  | some none => true
  | _ => false
theorem no_of {K : Frag} {x : Str} (e : noFact K x = true) : nsIn K mainGlobals x = some none := by
  unfold noFact at e
  split at e
  · rename_i h
    exact h
  · cases e
theorem at_map {α β : Type} {f g : α → β} {l : List α} (e : l.map f = l.map g) (i : Nat) {a : α} (h : l[i]? = some a) : f a = g a := by
  have q := congrArg (fun l : List β => l[i]?) e
  simp only [List.getElem?_map,h,Option.map_some,Option.some.injEq] at q
  exact q
theorem at_all {α : Type} {f : α → Bool} {l : List α} (e : l.all f = true) (i : Nat) {a : α} (h : l[i]? = some a) : f a = true :=
  List.all_eq_true.mp e a (List.mem_of_getElem? h)
def hook {α : Type} (facts : Frag → α) (val : α) : Hook :=
  ⟨α,fun s => facts (frag s.heap),fun _ => val,fun _ h => ∃ K : Frag,K.In h ∧ facts K = val,fun _ s e => ⟨_,frag_in s.heap,e⟩,fun _ _ _ ⟨K,hi,e⟩ k => ⟨K,Frag.In.keeps hi k,e⟩⟩
theorem law_walk {l : OpenLaw} {k : Nat} {q : Program} {loose : List Str} {XP : (Str → Option Value) → Heap → Prop} {d : DefRec} {α : Type} {facts : Frag → α} {val : α} (hk : Room k callerA) (hn : l.most = some 63) (hdf : d.params.defaults = [])
    (F : ∀ (K : Frag),facts K = val → ∀ (w : World) (mg : Str → Option Value) (fa : Addr) (h : Heap),K.In h → h.Ns mainGlobals mg → mg d.name = some (.ref fa) →
      ∃ fd : FuncData,(∀ (s : Shared) (u : Value),BindsTo s fd ⟨[u],[]⟩ [("script",u)]) ∧ ∀ base : Heap,K.In base → base.Ns mainGlobals mg → FnOk l.prog w K mg base CX0 k fa fd ["script"] (spLaw K)) :
    WalkO q loose XP (Hook.says (hook facts val)) l.row.toRowW d [] (fun f vs => PySem.call f vs) := by
  intro w s₀ s₁ mg mb G Y
  obtain ⟨K,hin,hf⟩ := Y
  exact L2.law_walk (l := l) (k := k) (q := q) (loose := loose) (XP := XP) (YP := fun _ h => K.In h) (d := d) (K := fun _ => K) hk hn hdf (fun _ _ y => y) (fun w mg fa h => F K hf w mg fa h) w s₀ s₁ mg mb G hin
end Hd
namespace Hd
open PySem PySem.W PySem.Spec L2
theorem vals_sz {ds : List V} {its : List Value} (u : Vals ds its) (h : ds.length ≤ 100) : its.toArray.size ≤ 100 := by
  rw [List.size_toArray,← u.length]
  exact h
end Hd
namespace L2
open PySem PySem.Spec PyProof.Rows
structure DfA (K : PySem.W.Frag) (mg : Str → Option Value) (x y : Str) (st : Stmt) : Prop where
  ex : ∃ (f : Addr) (oc : Value) (od : Option Addr) (kV doc pm : Value) (an : Option Addr) (cdv ct : Value) (osl : Array (Option Value)),
    mg x = some (.ref f) ∧ K.lookup f = some ⟨oc,od,.func (PySem.W.fnOf y y (defArgs st) (defBody st) (defScope st) .none kV doc pm an cdv ct),osl⟩ ∧ PySem.W.codeIn K cdv y = true ∧ PySem.W.keepIn K (.ref f) = true
theorem dfa_mk {K : PySem.W.Frag} {mg : Str → Option Value} {h : Heap} {x y : Str} {st : Stmt} {f : Addr} {oc : Value} {od an : Option Addr} {osl : Array (Option Value)} {kV doc pm cdv ct : Value} (X : K.In h) (G : h.Ns mainGlobals mg)
    (a : PySem.W.nsIn K mainGlobals x = some (some (.ref f))) (l : K.lookup f = some ⟨oc,od,.func (PySem.W.fnOf y y (defArgs st) (defBody st) (defScope st) .none kV doc pm an cdv ct),osl⟩) (c : PySem.W.codeIn K cdv y = true) (k : PySem.W.keepIn K (.ref f) = true) :
    DfA K mg x y st := ⟨⟨f,oc,od,kV,doc,pm,an,cdv,ct,osl,PySem.W.mg_of X G a,l,c,k⟩⟩
theorem DfA.fn {P : Program} {w : World} {K : PySem.W.Frag} {mg : Str → Option Value} {base : Heap} {x y : Str} {st : Stmt} {N ps : List Str} {k : Nat} {sp : Sp} (D : DfA K mg x y st) (S : FnScope N ps (defScope st))
    (hbind : ∀ (kV doc pm : Value) (an : Option Addr) (cdv ct : Value) (us : List Value),us.length = ps.length → bindArgs (PySem.W.fnOf y y (defArgs st) (defBody st) (defScope st) .none kV doc pm an cdv ct) ⟨us,[]⟩ = pure (ps.zip us))
    (len : ∀ vs H Q E,sp vs H Q E → vs.length = ps.length)
    (hbody : ∀ (f : Addr) (cdv : Value) (A : Around) (outer : List Env) (s : Shared) (H : Hp) (vs : List V) (Q : VK) (E : XK),Room k (A.deeper (envOfC y (defScope st) s.heap.objs.size f cdv)) → sp vs H Q E →
      ∃ t,PSs (cxOf CX0 P w K mg base N y (defScope st) f cdv A outer s H E).nox (defBody st) t ∧ t { nx := fun _ H' => Q .non H',rt := Q } (start N vs) H) : Fn P w K mg base x ps (k + 1) sp := by
  obtain ⟨f,oc,od,kV,doc,pm,an,cdv,ct,osl,hm,lk,hcd,hk⟩ := D.ex
  refine ⟨⟨f,_,_,hm,hk,hbind kV doc pm an cdv ct,⟨lk,rfl⟩,fn_of lk hcd S len fun A outer s H vs Q E hr hsp => ?_⟩⟩
  obtain ⟨t,h,q⟩ := hbody f cdv A outer s H vs Q E hr hsp
  exact ⟨t,h.nox,q⟩
end L2
namespace Hd
open PySem PySem.W PySem.Spec L2
theorem pair2 {α β : Type _} {a a' : α} {b b' : β} (h : a = a') (g : b = b') : (a,b) = (a',b') := by rw [h,g]
def fnFactA (K : Frag) (x y : Str) : Option (Arguments × List Stmt × Scope × Value) := match nsIn K mainGlobals x with
  | some (some (.ref f)) => (match K.lookup f with
    | some ⟨_,_,.func fd,_⟩ => (match fd.body,fd.closure with
      | .stmts b,[] => bif (fd.name == y && (fd.qualname == y && (Nat.beq fd.globals mainGlobals && (Nat.beq fd.builtins builtinsNs && codeIn K fd.code y)))) then some (fd.params,b,fd.scope,fd.defaults) else none
      | _,_ => none)
    | _ => none)
  | _ => none
theorem fnFactA_spec {K : Frag} {x y : Str} {a : Arguments} {b : List Stmt} {sc : Scope} {dv : Value} (e : fnFactA K x y = some (a,b,sc,dv)) :
    ∃ (f : Addr) (oc : Value) (od : Option Addr) (kV doc pm : Value) (an : Option Addr) (cdv ct : Value) (osl : Array (Option Value)),
      nsIn K mainGlobals x = some (some (.ref f)) ∧ K.lookup f = some ⟨oc,od,.func (fnOf y y a b sc dv kV doc pm an cdv ct),osl⟩ ∧ codeIn K cdv y = true ∧ keepIn K (.ref f) = true := by
  unfold fnFactA at e
  split at e
  · rename_i f hf
    split at e
    · rename_i oc od fd osl hl
      split at e
      · rename_i b' hb hc
        cases hq : (fd.name == y && (fd.qualname == y && (Nat.beq fd.globals mainGlobals && (Nat.beq fd.builtins builtinsNs && codeIn K fd.code y)))) with
        | false => rw [hq] at e; cases e
        | true =>
          rw [hq] at e
          simp only [Bool.and_eq_true] at hq
          obtain ⟨h1,h2,h3,h4,h5⟩ := hq
          replace h1 := eq_of_beq h1
          replace h2 := eq_of_beq h2
          replace h3 := Nat.eq_of_beq_eq_true h3
          replace h4 := Nat.eq_of_beq_eq_true h4
          simp only [cond_true,Option.some.injEq,Prod.mk.injEq] at e
          obtain ⟨e1,e2,e3,e4⟩ := e
          obtain ⟨n,qn,ps,bd,s,gl,cl,df,kw,dc,pm,an,cd,ct,bl⟩ := fd
          simp only at h1 h2 h3 h4 h5 e1 e2 e3 e4 hb hc
          subst h1 h2 h3 h4 e1 e2 e3 e4 hb hc
          refine ⟨f,oc,od,kw,dc,pm,an,cd,ct,osl,hf,hl,h5,?_⟩
          unfold keepIn
          dsimp only
          rw [hl]
      · cases e
    · cases e
  · cases e
theorem dfa_of {K : Frag} {mg : Str → Option Value} {h : Heap} {x y : Str} {st : Stmt} (X : K.In h) (G : h.Ns mainGlobals mg) (e : fnFactA K x y = some (defArgs st,defBody st,defScope st,.none)) : DfA K mg x y st := by
  obtain ⟨f,oc,od,kV,doc,pm,an,cdv,ct,osl,h1,h2,h3,h4⟩ := fnFactA_spec e
  exact dfa_mk X G h1 h2 h3 h4
end Hd
namespace Hd
open PySem PySem.W PySem.Spec L2
end Hd
namespace Hd
open PySem PySem.W PySem.Spec L2
end Hd
local macro_rules | `(tactic| walk_at "bt") => `(tactic| first
  | assumption
  | (apply L2.bits_mul <;> walk_at "bt")
  | (apply L2.bits_add2 <;> walk_at "bt")
  | (apply L2.bits_sub2 <;> walk_at "bt")
  | (apply L2.bits_neg; walk_at "bt")
  | (apply L2.bits_abs; walk_at "bt")
  | exact L2.bits_lit)
local macro_rules | `(tactic| walk_at "bl") => `(tactic| (apply L2.bits_of_le; (walk_at "bt"); decide))
local macro_rules | `(tactic| walk_at "cm") => `(tactic| first
  | exact L2.CM.l ⟨by decide,by decide⟩
  | exact L2.CM.r ⟨by decide,by decide⟩
  | (apply L2.CM.of; (walk_at "bt"); (walk_at "bt"); decide))
local macro_rules | `(tactic| walk_at "at") => `(tactic| first
  | assumption
  | exact L2.upd_same
  | (refine L2.Same.at (by assumption) ?_; walk_at "at")
  | (refine L2.SameT.at (by assumption) ?_; walk_at "at"))
local macro_rules | `(tactic| walk_at "sm") => `(tactic| first
  | assumption
  | exact L2.Same.rfl'
  | (refine L2.Same.trans ?_ (by assumption); walk_at "sm"))
local macro_rules | `(tactic| walk_at "kn") => `(tactic| first
  | assumption
  | exact ⟨_,.int _⟩ | exact ⟨_,.bl _⟩ | exact ⟨_,.str _⟩ | exact ⟨_,.non⟩
  | exact ⟨_,.tup (by walk_at "at")⟩ | exact ⟨_,.lst (by walk_at "at")⟩ | exact ⟨_,.dict (by walk_at "at")⟩)
local macro_rules | `(tactic| walk_at "nice") => `(tactic| first
  | exact L2.nice_int | exact L2.nice_bool | exact L2.nice_tuple | exact L2.nice_list | exact L2.nice_str)
local macro_rules | `(tactic| walk_at "th") => `(tactic| first
  | assumption
  | exact Sp1.th_flat .non (fun p e => nomatch e) | exact Sp1.th_flat (.int _) (fun p e => nomatch e) | exact Sp1.th_flat (.bl _) (fun p e => nomatch e) | exact Sp1.th_flat (.str _) (fun p e => nomatch e)
  | exact Sp1.th_lst (by walk_at "at")
  | (refine' Sp1.th_tup ?hat ?hkn; (case hat => walk_at "at"); (case hkn => (simp only [List.mem_cons,List.not_mem_nil,or_false,forall_eq_or_imp,forall_eq,false_imp_iff,implies_true]; (try (first | (walk_at "kn") | (repeat' apply And.intro) <;> walk_at "kn")))))
  )
local macro_rules | `(tactic| walk_at "r1") => `(tactic| first
  | (refine ⟨_,rfl,?_⟩)
  | (refine ⟨_,_,rfl,rfl,?_⟩)
  | (refine ⟨_,_,rfl,rfl,by walk_at "cm",?_⟩)
  | (refine ⟨_,_,rfl,rfl,(by show (0 : Int) < _; decide),?_⟩)
  | (refine ⟨_,_,rfl,rfl,⟨by decide,by decide⟩,?_⟩)
  | (refine ⟨_,_,rfl,rfl,⟨by decide,by decide,by decide⟩,?_⟩)
  | (refine' ⟨_,_,_,_,rfl,rfl,L2.SqT.of ?hat,?hix,?nxt⟩; (case hat => walk_at "at"); (case hix => exact rfl))
  | (refine' ⟨_,_,_,_,rfl,rfl,L2.SqL.of ?hat,?hix,?nxt⟩; (case hat => walk_at "at"); (case hix => exact rfl))
  | (refine ⟨by walk_at "cm",?_⟩)
  | (refine ⟨(by show (0 : Int) < _; decide),?_⟩)
  | (refine ⟨⟨by decide,by decide⟩,?_⟩)
  | (refine ⟨⟨by decide,by decide,by decide⟩,?_⟩)
  | (refine ⟨Sp1.sz (by simp),fun _ _ _ _ _ => ?_⟩)
  | (refine ⟨Sp1.sz (by simp),L2.alloc fun _ _ _ _ => ?_⟩)
  | (refine' ⟨_,_,_,_,rfl,rfl,?hat,?hbt,Sp1.sz ?hsz,fun _ _ _ _ _ => ?nxt⟩; (case hat => walk_at "at"); (case hbt => walk_at "at"); (case hsz => simp))
  | (refine' ⟨_,_,_,_,rfl,rfl,?hat,?hbt,Sp1.sz ?hsz,L2.alloc fun _ _ _ _ => ?nxt⟩; (case hat => walk_at "at"); (case hbt => walk_at "at"); (case hsz => simp))
  | (refine' ⟨_,_,rfl,.inl (L2.SqL.of ?hat),?nxt⟩; (case hat => walk_at "at"))
  | (refine' ⟨_,_,rfl,.inr (L2.SqT.of ?hat),?nxt⟩; (case hat => walk_at "at"))
  | (refine' L2.alloc fun _ _ _ _ => ?nxt))
local macro_rules | `(tactic| walk_at "rd") => `(tactic| repeat (walk_at "r1"))
namespace K20
open PySem PySem.Spec L2 Mth Sp1 Sp2 Sp11 Sp7 Dr Wk Fnc
def top (i : Nat) : Stmt := PySem.Challenge.pw_oneleash_k20_whole_exchanged_and_turned.main.body.getD i (.Pass ⟨0,0,0,0⟩)
def hNames0 : List (Str × Nat) := [(Str.ofString "is_whole",8),(Str.ofString "common_divisor",9),(Str.ofString "plus",11),(Str.ofString "minus",12),(Str.ofString "times",13),(Str.ofString "over",14),(Str.ofString "less",15),(Str.ofString "floor_of",16),(Str.ofString "number_of_least",17),(Str.ofString "number_of_greatest",18),(Str.ofString "is_ratio",19),(Str.ofString "last_of",21),(Str.ofString "is_place",23),(Str.ofString "look_at_place",24),(Str.ofString "is_pair",25),(Str.ofString "are_pairs",26),(Str.ofString "number_at",27),(Str.ofString "point_at",28)]
def hNames1 : List (Str × Nat) := [(Str.ofString "share_a_stretch",29),(Str.ofString "step_from",30),(Str.ofString "inner_product",31),(Str.ofString "square_between",32),(Str.ofString "square_of",33),(Str.ofString "nearest_part",34),(Str.ofString "least_along",35),(Str.ofString "look_at_way",38),(Str.ofString "goes_on",42),(Str.ofString "goes_freely",43),(Str.ofString "hops",44),(Str.ofString "steps_back",54),(Str.ofString "keeps_corner",55),(Str.ofString "slides",56),(Str.ofString "has_whole_places",57),(Str.ofString "hops_aside",58),(Str.ofString "is_measured_between",64),(Str.ofString "least_between",65)]
def hNames2 : List (Str × Nat) := [(Str.ofString "slide_square",66),(Str.ofString "measured_squares",67),(Str.ofString "_law_cell_at",70),(Str.ofString "_law_folded",71),(Str.ofString "_law_begun",72),(Str.ofString "_law_take",73),(Str.ofString "_law_wide",74),(Str.ofString "_law_drawn_line",75),(Str.ofString "_law_moved",76),(Str.ofString "_law_drawn_other",77),(Str.ofString "_law_lines",78),(Str.ofString "_law_divisor",79),(Str.ofString "_law_ratio",80),(Str.ofString "_law_below",81),(Str.ofString "_law_lesser",82),(Str.ofString "_law_greater",83),(Str.ofString "_law_spot_on",84),(Str.ofString "_law_any",85)]
def hNames3 : List (Str × Nat) := [(Str.ofString "_law_ahead",86),(Str.ofString "_law_home",87),(Str.ofString "_law_drawn_walk",88),(Str.ofString "_law_down",89),(Str.ofString "_law_over",90),(Str.ofString "_law_next",91),(Str.ofString "_law_ended",92),(Str.ofString "_law_drawn_fence",93),(Str.ofString "_law_drawn_way",94),(Str.ofString "_law_across",95),(Str.ofString "_law_from_end",96),(Str.ofString "_law_further",97),(Str.ofString "_law_walks_alike",98),(Str.ofString "_law_fences_alike",99),(Str.ofString "_law_right",100),(Str.ofString "law",101)]
def hNamesD : List (Str × Nat × List V) := [(Str.ofString "ratio",10,[.int 1]),(Str.ofString "is_walk",49,[.str "on"]),(Str.ofString "walk_square",50,[.str "on"]),(Str.ofString "is_fence",63,[.str "on"]),(Str.ofString "fence_square",68,[.str "on"])]
def hExc : List Str := [Str.ofString "NoRatio",Str.ofString "NoWay",Str.ofString "NoWalk",Str.ofString "NoFence",Str.ofString "NoPlace",Str.ofString "LeashError"]
def hNo : List Str := [Str.ofString "abs",Str.ofString "all",Str.ofString "bool",Str.ofString "enumerate",Str.ofString "int",Str.ofString "isinstance",Str.ofString "len",Str.ofString "list",Str.ofString "max",Str.ofString "min",Str.ofString "range",Str.ofString "reversed",Str.ofString "str",Str.ofString "tuple",Str.ofString "zip"]
def hTup : List (Str × List V) := [(Str.ofString "WAYS",[.str "on",.str "part",.str "free",.str "hops"])]
def hNamesA : List (Str × Str × Nat) := [(Str.ofString "has_right_ends_walks",Str.ofString "has_right_ends",40),(Str.ofString "may_step_walks",Str.ofString "may_step",45),(Str.ofString "has_right_steps_walks",Str.ofString "has_right_steps",47),(Str.ofString "has_right_ends_fences",Str.ofString "has_right_ends",52),(Str.ofString "may_step_fences",Str.ofString "may_step",59),(Str.ofString "has_right_steps_fences",Str.ofString "has_right_steps",61)]
def hF0 (K : PySem.W.Frag) : List (Option (Arguments × List Stmt × Scope × Value)) := hNames0.map (fun p => Hd.fnFact K p.1)
def hG0 : List (Option (Arguments × List Stmt × Scope × Value)) := hNames0.map (fun p => some (defArgs (top p.2),defBody (top p.2),defScope (top p.2),.none))
def hF1 (K : PySem.W.Frag) : List (Option (Arguments × List Stmt × Scope × Value)) := hNames1.map (fun p => Hd.fnFact K p.1)
def hG1 : List (Option (Arguments × List Stmt × Scope × Value)) := hNames1.map (fun p => some (defArgs (top p.2),defBody (top p.2),defScope (top p.2),.none))
def hF2 (K : PySem.W.Frag) : List (Option (Arguments × List Stmt × Scope × Value)) := hNames2.map (fun p => Hd.fnFact K p.1)
def hG2 : List (Option (Arguments × List Stmt × Scope × Value)) := hNames2.map (fun p => some (defArgs (top p.2),defBody (top p.2),defScope (top p.2),.none))
def hF3 (K : PySem.W.Frag) : List (Option (Arguments × List Stmt × Scope × Value)) := hNames3.map (fun p => Hd.fnFact K p.1)
def hG3 : List (Option (Arguments × List Stmt × Scope × Value)) := hNames3.map (fun p => some (defArgs (top p.2),defBody (top p.2),defScope (top p.2),.none))
def hF4 (K : PySem.W.Frag) : List (Option (Arguments × List Stmt × Scope × List V)) × Bool × Bool × List (Option (List V)) × List (Option (Arguments × List Stmt × Scope × Value)) := (hNamesD.map (fun p => Hd.fnFactD K p.1),hExc.all (Hd.excFact K),hNo.all (Hd.noFact K),hTup.map (fun p => Hd.tupFact K p.1),hNamesA.map (fun p => Hd.fnFactA K p.1 p.2.1))
def hG4 : List (Option (Arguments × List Stmt × Scope × List V)) × Bool × Bool × List (Option (List V)) × List (Option (Arguments × List Stmt × Scope × Value)) := (hNamesD.map (fun p => some (defArgs (top p.2.1),defBody (top p.2.1),defScope (top p.2.1),p.2.2)),true,true,hTup.map (fun p => some p.2),hNamesA.map (fun p => some (defArgs (top p.2.2),defBody (top p.2.2),defScope (top p.2.2),.none)))
def hFacts (K : PySem.W.Frag) : (List (Option (Arguments × List Stmt × Scope × Value))) × (List (Option (Arguments × List Stmt × Scope × Value))) × (List (Option (Arguments × List Stmt × Scope × Value))) × (List (Option (Arguments × List Stmt × Scope × Value))) × (List (Option (Arguments × List Stmt × Scope × List V)) × Bool × Bool × List (Option (List V)) × List (Option (Arguments × List Stmt × Scope × Value))) := (hF0 (K),hF1 (K),hF2 (K),hF3 (K),hF4 (K))
def hGood : (List (Option (Arguments × List Stmt × Scope × Value))) × (List (Option (Arguments × List Stmt × Scope × Value))) × (List (Option (Arguments × List Stmt × Scope × Value))) × (List (Option (Arguments × List Stmt × Scope × Value))) × (List (Option (Arguments × List Stmt × Scope × List V)) × Bool × Bool × List (Option (List V)) × List (Option (Arguments × List Stmt × Scope × Value))) := (hG0,hG1,hG2,hG3,hG4)
def hView : Program := PySem.W.view PySem.Challenge.pw_oneleash_k20_whole_exchanged_and_turned [101]
def hLoose : List Str := [Str.ofString "LeashError",Str.ofString "NoRatio",Str.ofString "NoPlace",Str.ofString "NoWay",Str.ofString "NoWalk",Str.ofString "NoFence",Str.ofString "is_whole",Str.ofString "common_divisor",Str.ofString "ratio",Str.ofString "plus",Str.ofString "minus",Str.ofString "times",Str.ofString "over",Str.ofString "less",Str.ofString "floor_of",Str.ofString "number_of_least",Str.ofString "number_of_greatest",Str.ofString "is_ratio",Str.ofString "last_of",Str.ofString "is_place",Str.ofString "look_at_place",Str.ofString "is_pair",Str.ofString "are_pairs",Str.ofString "number_at",Str.ofString "point_at",Str.ofString "share_a_stretch",Str.ofString "step_from",Str.ofString "inner_product",Str.ofString "square_between",Str.ofString "square_of",Str.ofString "nearest_part",Str.ofString "least_along",Str.ofString "WAYS",Str.ofString "look_at_way",Str.ofString "has_right_ends",Str.ofString "has_right_ends_walks",Str.ofString "goes_on",Str.ofString "goes_freely",Str.ofString "hops",Str.ofString "may_step",Str.ofString "may_step_walks",Str.ofString "has_right_steps",Str.ofString "has_right_steps_walks",Str.ofString "is_walk",Str.ofString "walk_square",Str.ofString "has_right_ends_fences",Str.ofString "steps_back",Str.ofString "keeps_corner",Str.ofString "slides",Str.ofString "has_whole_places",Str.ofString "hops_aside",Str.ofString "may_step_fences",Str.ofString "has_right_steps_fences",Str.ofString "is_fence",Str.ofString "is_measured_between",Str.ofString "least_between",Str.ofString "slide_square",Str.ofString "measured_squares",Str.ofString "fence_square",Str.ofString "_law_cell_at",Str.ofString "_law_folded",Str.ofString "_law_begun",Str.ofString "_law_take",Str.ofString "_law_wide",Str.ofString "_law_drawn_line",Str.ofString "_law_moved",Str.ofString "_law_drawn_other",Str.ofString "_law_lines",Str.ofString "_law_divisor",Str.ofString "_law_ratio",Str.ofString "_law_below",Str.ofString "_law_lesser",Str.ofString "_law_greater",Str.ofString "_law_spot_on",Str.ofString "_law_any",Str.ofString "_law_ahead",Str.ofString "_law_home",Str.ofString "_law_drawn_walk",Str.ofString "_law_down",Str.ofString "_law_over",Str.ofString "_law_next",Str.ofString "_law_ended",Str.ofString "_law_drawn_fence",Str.ofString "_law_drawn_way",Str.ofString "_law_across",Str.ofString "_law_from_end",Str.ofString "_law_further",Str.ofString "_law_walks_alike",Str.ofString "_law_fences_alike",Str.ofString "_law_right"]
noncomputable def hRunS (w : World) := (PySem.W.openEnds treeTable PySem.Challenge.pw_oneleash_k20_whole_exchanged_and_turned w 100000).map (fun s => (PySem.W.openSeen hView hLoose (importedModules PySem.Challenge.pw_oneleash_k20_whole_exchanged_and_turned.main.body) (fun _ => true) true s,hF4 (Hd.frag s.heap)))
noncomputable def hEndS := some ((PySem.W.openGood hView hLoose,hG4))
theorem hRunS_self : @hRunS = @hRunS := rfl
theorem hEndS_self : @hEndS = @hEndS := rfl
set_option maxHeartbeats 0 in
lay_quick K20.hRunS K20.hEndS
name_quick hRunSQ for K20.hRunS by K20.hRunS_self
name_quick hEndSQ for K20.hEndS by K20.hEndS_self
set_option maxHeartbeats 0 in
theorem hQuickS (w : World) : PySem.W.Fast.hRunSQ w = PySem.W.Fast.hEndSQ := by kernel_rfl
theorem hOneS (w : World) : hRunS w = hEndS := (congrFun PySem.W.Fast.hRunSQ_eq w).trans ((hQuickS w).trans PySem.W.Fast.hEndSQ_eq.symm)
noncomputable def hRun0 (w : World) := (PySem.W.openEnds treeTable PySem.Challenge.pw_oneleash_k20_whole_exchanged_and_turned w 100000).map (fun s => hF0 (Hd.frag s.heap))
noncomputable def hEnd0 := some (hG0)
theorem hRun0_self : @hRun0 = @hRun0 := rfl
theorem hEnd0_self : @hEnd0 = @hEnd0 := rfl
set_option maxHeartbeats 0 in
lay_quick K20.hRun0 K20.hEnd0
name_quick hRun0Q for K20.hRun0 by K20.hRun0_self
name_quick hEnd0Q for K20.hEnd0 by K20.hEnd0_self
set_option maxHeartbeats 0 in
theorem hQuick0 (w : World) : PySem.W.Fast.hRun0Q w = PySem.W.Fast.hEnd0Q := by kernel_rfl
theorem hOne0 (w : World) : hRun0 w = hEnd0 := (congrFun PySem.W.Fast.hRun0Q_eq w).trans ((hQuick0 w).trans PySem.W.Fast.hEnd0Q_eq.symm)
noncomputable def hRun1 (w : World) := (PySem.W.openEnds treeTable PySem.Challenge.pw_oneleash_k20_whole_exchanged_and_turned w 100000).map (fun s => hF1 (Hd.frag s.heap))
noncomputable def hEnd1 := some (hG1)
theorem hRun1_self : @hRun1 = @hRun1 := rfl
theorem hEnd1_self : @hEnd1 = @hEnd1 := rfl
set_option maxHeartbeats 0 in
lay_quick K20.hRun1 K20.hEnd1
name_quick hRun1Q for K20.hRun1 by K20.hRun1_self
name_quick hEnd1Q for K20.hEnd1 by K20.hEnd1_self
set_option maxHeartbeats 0 in
theorem hQuick1 (w : World) : PySem.W.Fast.hRun1Q w = PySem.W.Fast.hEnd1Q := by kernel_rfl
theorem hOne1 (w : World) : hRun1 w = hEnd1 := (congrFun PySem.W.Fast.hRun1Q_eq w).trans ((hQuick1 w).trans PySem.W.Fast.hEnd1Q_eq.symm)
noncomputable def hRun2 (w : World) := (PySem.W.openEnds treeTable PySem.Challenge.pw_oneleash_k20_whole_exchanged_and_turned w 100000).map (fun s => hF2 (Hd.frag s.heap))
noncomputable def hEnd2 := some (hG2)
theorem hRun2_self : @hRun2 = @hRun2 := rfl
theorem hEnd2_self : @hEnd2 = @hEnd2 := rfl
set_option maxHeartbeats 0 in
lay_quick K20.hRun2 K20.hEnd2
name_quick hRun2Q for K20.hRun2 by K20.hRun2_self
name_quick hEnd2Q for K20.hEnd2 by K20.hEnd2_self
set_option maxHeartbeats 0 in
theorem hQuick2 (w : World) : PySem.W.Fast.hRun2Q w = PySem.W.Fast.hEnd2Q := by kernel_rfl
theorem hOne2 (w : World) : hRun2 w = hEnd2 := (congrFun PySem.W.Fast.hRun2Q_eq w).trans ((hQuick2 w).trans PySem.W.Fast.hEnd2Q_eq.symm)
noncomputable def hRun3 (w : World) := (PySem.W.openEnds treeTable PySem.Challenge.pw_oneleash_k20_whole_exchanged_and_turned w 100000).map (fun s => hF3 (Hd.frag s.heap))
noncomputable def hEnd3 := some (hG3)
theorem hRun3_self : @hRun3 = @hRun3 := rfl
theorem hEnd3_self : @hEnd3 = @hEnd3 := rfl
set_option maxHeartbeats 0 in
lay_quick K20.hRun3 K20.hEnd3
name_quick hRun3Q for K20.hRun3 by K20.hRun3_self
name_quick hEnd3Q for K20.hEnd3 by K20.hEnd3_self
set_option maxHeartbeats 0 in
theorem hQuick3 (w : World) : PySem.W.Fast.hRun3Q w = PySem.W.Fast.hEnd3Q := by kernel_rfl
theorem hOne3 (w : World) : hRun3 w = hEnd3 := (congrFun PySem.W.Fast.hRun3Q_eq w).trans ((hQuick3 w).trans PySem.W.Fast.hEnd3Q_eq.symm)
theorem hAll (w : World) : (PySem.W.openEnds treeTable PySem.Challenge.pw_oneleash_k20_whole_exchanged_and_turned w 100000).map (fun s => (PySem.W.openSeen hView hLoose (importedModules PySem.Challenge.pw_oneleash_k20_whole_exchanged_and_turned.main.body) (fun _ => true) true s,hFacts (Hd.frag s.heap))) = some (PySem.W.openGood hView hLoose,hGood) := by
  have rS : (PySem.W.openEnds treeTable PySem.Challenge.pw_oneleash_k20_whole_exchanged_and_turned w 100000).map (fun s => (PySem.W.openSeen hView hLoose (importedModules PySem.Challenge.pw_oneleash_k20_whole_exchanged_and_turned.main.body) (fun _ => true) true s,hF4 (Hd.frag s.heap))) = some ((PySem.W.openGood hView hLoose,hG4)) := hOneS w
  have r0 : (PySem.W.openEnds treeTable PySem.Challenge.pw_oneleash_k20_whole_exchanged_and_turned w 100000).map (fun s => hF0 (Hd.frag s.heap)) = some (hG0) := hOne0 w
  have r1 : (PySem.W.openEnds treeTable PySem.Challenge.pw_oneleash_k20_whole_exchanged_and_turned w 100000).map (fun s => hF1 (Hd.frag s.heap)) = some (hG1) := hOne1 w
  have r2 : (PySem.W.openEnds treeTable PySem.Challenge.pw_oneleash_k20_whole_exchanged_and_turned w 100000).map (fun s => hF2 (Hd.frag s.heap)) = some (hG2) := hOne2 w
  have r3 : (PySem.W.openEnds treeTable PySem.Challenge.pw_oneleash_k20_whole_exchanged_and_turned w 100000).map (fun s => hF3 (Hd.frag s.heap)) = some (hG3) := hOne3 w
  skip
  generalize (PySem.W.openEnds treeTable PySem.Challenge.pw_oneleash_k20_whole_exchanged_and_turned w 100000) = x at *
  cases x with
  | none => cases rS
  | some s =>
    have zS := Option.some.inj rS
    have z0 := Option.some.inj r0
    have z1 := Option.some.inj r1
    have z2 := Option.some.inj r2
    have z3 := Option.some.inj r3
    show some (PySem.W.openSeen hView hLoose (importedModules PySem.Challenge.pw_oneleash_k20_whole_exchanged_and_turned.main.body) (fun _ => true) true s,hFacts (Hd.frag s.heap)) = _
    unfold hFacts hGood
    have z := (congrArg Prod.fst zS)
    have q4 := (congrArg Prod.snd zS)
    have q0 := z0
    have q1 := z1
    have q2 := z2
    have q3 := z3
    exact congrArg some (Hd.pair2 z (Hd.pair2 q0 (Hd.pair2 q1 (Hd.pair2 q2 (Hd.pair2 q3 q4)))))
structure Txt (mg : Str → Option Value) : Prop where
  z_abs : mg "abs" = none
  z_all : mg "all" = none
  z_bool : mg "bool" = none
  z_enumerate : mg "enumerate" = none
  z_int : mg "int" = none
  z_isinstance : mg "isinstance" = none
  z_len : mg "len" = none
  z_list : mg "list" = none
  z_max : mg "max" = none
  z_min : mg "min" = none
  z_range : mg "range" = none
  z_reversed : mg "reversed" = none
  z_str : mg "str" = none
  z_tuple : mg "tuple" = none
  z_zip : mg "zip" = none
section
variable {P : Program} {w : World} {K : PySem.W.Frag} {mg : Str → Option Value} {base : Heap}
theorem len1 {α : Type} {xs : List α} (h : xs.length = 1) : ∃ a,xs = [a] := match xs,h with | [a],_ => ⟨a,rfl⟩
inductive spLs (vs : List V) (H : Hp) (Q : VK) (x_3 : XK) : Prop
  | mk : ∀ (p q : Addr) (a b c d : Int),(vs = [.ref p,.ref q]) → (H p = some (.tup [.int a,.int b])) → (H q = some (.tup [.int c,.int d])) → ((bits a ≤ 5000 ∧ bits b ≤ 5000 ∧ bits c ≤ 5000 ∧ bits d ≤ 5000)) → (Q (.bl (decide (a * d < c * b))) H) → spLs vs H Q x_3
inductive spNear (vs : List V) (H : Hp) (Q : VK) (x_3 : XK) : Prop
  | mk : ∀ (p p1 p2 : Addr) (X Y b X1 Y1 b1 X2 Y2 b2 : Int),(vs = [.ref p,.ref p1,.ref p2]) → (PtAt H p X Y b 262) → (PtAt H p1 X1 Y1 b1 262) → (PtAt H p2 X2 Y2 b2 262) → (0 < b) → (0 < b1) → (0 < b2) → (∀ (r : Addr) (t u : Int) (H' : Hp),Fr2 H' r t u 4207 → NP X Y b X1 Y1 b1 X2 Y2 b2 t u → Same H H' → Q (.ref r) H') → spNear vs H Q x_3
def LeastK (l l' : Addr) (qs qs' : Crn) (t b l1 l2 h1 h2 : Int) (H : Hp) (Q : VK) : Prop := bits b ≤ 60 ∧ bits l2 ≤ 60 ∧ bits h2 ≤ 60 ∧ InS qs'.length l1 l2 h1 h2 ∧
  ∀ (r rs rp : Addr) (s w T B : Int) (H' : Hp),H' r = some (.tup [.ref rs,.ref rp]) → Fr2 H' rs s w 2103 → Plc H' rp T B (lst_ qs') → LPc (ptX qs t b) (ptY qs t b) b qs' l1 l2 h1 h2 T B → l1 * B ≤ T * l2 → T * h2 ≤ h1 * B → Frac (sqF qs t b qs' T B) (sqD b B) s w → Same H H' → Q (.ref r) H'
inductive spLeast (C : Addr) (vs : List V) (H : Hp) (Q : VK) (E : XK) : Prop
  | mk : ∀ (l l' : Addr) (qs qs' : Crn) (x y z : V),(vs = [.ref l,x,.ref l',y,z]) → (LineAt H l qs) → (LineAt H l' qs') → ((1 ≤ qs.length ∧ qs.length ≤ 20)) → ((1 ≤ qs'.length ∧ qs'.length ≤ 20)) → (Thing H x) → (Thing H y) → (Thing H z) → (((placeV (lst_ qs) H x = false ∧ E (.ref C) none H) ∨ ∃ (p : Addr) (t b : Int),x = .ref p ∧ Plc H p t b (lst_ qs) ∧
    ((placeV (lst_ qs') H y = false ∧ ∀ H',Same H H' → E (.ref C) none H') ∨ ∃ (q : Addr) (l1 l2 : Int),y = .ref q ∧ Plc H q l1 l2 (lst_ qs') ∧
      ((placeV (lst_ qs') H z = false ∧ ∀ H',Same H H' → E (.ref C) none H') ∨ ∃ (q' : Addr) (h1 h2 : Int),z = .ref q' ∧ Plc H q' h1 h2 (lst_ qs') ∧ LeastK l l' qs qs' t b l1 l2 h1 h2 H Q)))) → spLeast C vs H Q E
theorem pt_f {p : Addr} {qs : Crn} {t b : Int} {H : Hp} {G : Prop} (pl : Plc H p t b (lst_ qs)) (z : placeV ((qs.length : Int) - 1) H (.ref p) = false) : G := by
  rw [show placeV ((qs.length : Int) - 1) H (.ref p) = true from pl.place] at z
  cases z
theorem pt_t {p : Addr} {qs : Crn} {t b : Int} {H : Hp} {G : Addr → Hp → Prop} (pl : Plc H p t b (lst_ qs)) (k : ∀ (r : Addr) (H' : Hp),PtAt H' r (ptX qs t b) (ptY qs t b) b 262 → Same H H' → G r H') (p0 : Addr) (t0 b0 : Int) (e0 : V.ref p = .ref p0) (eH : H p0 = some (.tup [.int t0,.int b0])) (_ : Low t0 b0) (_ : 0 ≤ t0) (_ : t0 ≤ ((qs.length : Int) - 1) * b0) :
    bits t0 ≤ 200 ∧ bits b0 ≤ 200 ∧ ∀ (r : Addr) (H' : Hp),PtAt H' r (ptX qs t0 b0) (ptY qs t0 b0) b0 262 → Same H H' → G r H' := by
  cases e0
  have e2 := pl.at_
  rw [eH] at e2
  cases e2
  exact ⟨pl.bt,pl.bb,k⟩
theorem pt_n {qs : Crn} {x : V} {H : Hp} (no : placeV (lst_ qs) H x = false) {p0 : Addr} {t0 b0 : Int} (e0 : x = .ref p0) (eH : H p0 = some (.tup [.int t0,.int b0])) (lw : Low t0 b0) (t00 : 0 ≤ t0) (t01 : t0 ≤ ((qs.length : Int) - 1) * b0) {G : Prop} : G := by
  subst e0
  rw [show placeV (lst_ qs) H (.ref p0) = true from placeV_of eH lw t00 t01] at no
  cases no
theorem pt_rp {H : Hp} {r : Addr} {u v c d : Int} {n : Nat} (p : PtF H r u v c d n) : Rp H 9 (.ref r) (.tup [.tup [.int u,.int v],.tup [.int c,.int d]]) := by
  obtain ⟨rx,ry,e,f,g⟩ := p.ex
  exact Rp.t2 e (Rp.t2 f.at_ .int .int) (Rp.t2 g.at_ .int .int)
theorem fr_same {X1 b1 X2 b2 u1 v1 u2 v2 : Int} (h1 : b1 ≠ 0) (h2 : b2 ≠ 0) (f : Frac X1 b1 u1 v1) (g : Frac X2 b2 u2 v2) : X1 * b2 = X2 * b1 ↔ (u1 = u2 ∧ v1 = v2) := by
  have e1 := rq_of f h1
  have e2 := rq_of g h2
  constructor
  · intro h
    refine low_unique f.low g.low (rq_eq (nzl f.low) (nzl g.low) ?_)
    rw [e1,e2]
    have q1 := cz h1
    have q2 := cz h2
    have h3 : (X1 : Rat) * (b2 : Rat) = (X2 : Rat) * (b1 : Rat) := by rw [← Rat.intCast_mul,← Rat.intCast_mul,h]
    unfold rq
    grind
  · rintro ⟨rfl,rfl⟩
    exact rq_eq h1 h2 (by rw [← e1,← e2])
theorem fx_imp {x : Str} {ps : List Str} {k : Nat} {ds : List V} {sp sp' : Sp} (F : Fx P w K mg base x ps k ds sp) (h : ∀ vs H Q E,sp' vs H Q E → sp vs H Q E) : Fx P w K mg base x ps k ds sp' := by
  obtain ⟨f,fd,its,h1,h2,h3,h4,h5,h6⟩ := F.ex
  exact ⟨⟨f,fd,its,h1,h2,h3,h4,h5,h6.imp h⟩⟩
theorem ratio_weak {C : Addr} (F : Fx P w K mg base "ratio" ["top","bottom"] 2 [.int 1] (spRatioN C)) : Fx P w K mg base "ratio" ["top","bottom"] 2 [.int 1] (spRatio C) :=
  fx_imp F fun vs H Q E ⟨a,b,e,bd,h0,h1⟩ => ⟨a,b,2000,e,⟨bd.1,bd.2,by decide⟩,h0,h1⟩
theorem fn_imp {x : Str} {ps : List Str} {k : Nat} {sp sp' : Sp} (F : Fn P w K mg base x ps k sp) (h : ∀ vs H Q E,sp' vs H Q E → sp vs H Q E) : Fn P w K mg base x ps k sp' := by
  obtain ⟨f,fd,o,h1,h2,h3,h4,h6⟩ := F.ex
  exact ⟨⟨f,fd,o,h1,h2,h3,h4,h6.imp h⟩⟩
theorem less_weak (F : Fn P w K mg base "less" ["a","b"] 1 spLs) : Fn P w K mg base "less" ["a","b"] 1 spLess :=
  fn_imp F fun vs H Q E ⟨p,q,a,b,c,d,e,h1,h2,⟨b1,b2,b3,b4⟩,k⟩ => ⟨p,q,a,b,c,d,e,h1,h2,⟨bits_le b1 (by decide),bits_le b2 (by decide),bits_le b3 (by decide),bits_le b4 (by decide)⟩,k⟩
theorem S_is_whole : FnScope ["thing"] ["thing"] (defScope (top 8)) := ⟨rfl,rfl,rfl,by decide +kernel,rfl,by decide +kernel,by decide +kernel⟩
theorem fn_is_whole (D_is_whole : Df K mg "is_whole" (top 8)) (T : Txt mg) : Fn P w K mg base "is_whole" ["thing"] 1 spWhole := by
  refine D_is_whole.fn S_is_whole (fun _ _ _ _ _ _ us hl => by obtain ⟨_,rfl⟩ := len1 hl; rfl) (fun vs H Q E h => ?_) (fun f cdv A outer s H vs Q E hr h => ?_)
  · obtain ⟨x,t,rfl,_⟩ := h
    rfl
  · obtain ⟨x,t,rfl,k,q⟩ := h
    refine ⟨_,(pss_one (ps_ret (pe_and (pe_callB call_isinst (by rfl) T.z_isinstance bt_isinstance (pa_cons (pv 0) (pa_cons (pe_ty T.z_int bt_int) pa_nil))) (pe_one (pe_not (pe_callB call_isinst (by rfl) T.z_isinstance bt_isinstance (pa_cons (pv 0) (pa_cons (pe_ty T.z_bool bt_bool) pa_nil)))))))),?_⟩
    refine ⟨_,rfl,x,t,"int",rfl,k,.inl rfl,_,rfl,?_⟩
    refine ite3 (fun hc => ?_) (fun hc => ?_)
    · refine ⟨_,rfl,x,t,"bool",rfl,k,.inr (.inl rfl),_,rfl,?_⟩
      rw [(whole_sub k).1 hc]
      exact q
    · rw [(whole_sub k).2 hc] at q
      exact q
theorem S_common_divisor : FnScope ["one","other","rest"] ["one","other"] (defScope (top 9)) := ⟨rfl,rfl,rfl,by decide +kernel,rfl,by decide +kernel,by decide +kernel⟩
theorem fn_common_divisor (D_common_divisor : Df K mg "common_divisor" (top 9)) (T : Txt mg) : Fn P w K mg base "common_divisor" ["one","other"] 1 spGcd := by
  refine D_common_divisor.fn S_common_divisor (fun _ _ _ _ _ _ us hl => by obtain ⟨_,_,rfl⟩ := len2 hl; rfl) (fun vs H Q E h => ?_) (fun f cdv A outer s H vs Q E hr h => ?_)
  · obtain ⟨a,b,rfl,_⟩ := h
    rfl
  · obtain ⟨a,b,rfl,q⟩ := h
    refine ⟨_,(pss_cons (ps_set (i := 0) S_common_divisor.nd rfl (Or.inl rfl) (pe_callB call_abs (by rfl) T.z_abs bt_abs (pa_cons (pv 0) pa_nil))) (pss_cons (ps_set (i := 1) S_common_divisor.nd rfl (Or.inl rfl) (pe_callB call_abs (by rfl) T.z_abs bt_abs (pa_cons (pv 1) pa_nil))) (pss_cons (ps_while PassesOwn.never (pt_cmpR op_ne (pv 1) pe_int (nomark _)) (pss_cons (ps_set (i := 2) S_common_divisor.nd rfl (Or.inl rfl) (pe_op op_mod (pv 0) (pv 1))) (pss_cons (ps_set (i := 0) S_common_divisor.nd rfl (Or.inl rfl) (pv 1)) (pss_one (ps_set (i := 1) S_common_divisor.nd rfl (Or.inl rfl) (pv 2)))))) (pss_one (ps_ret (pv 0)))))),?_⟩
    refine ⟨_,rfl,a,rfl,_,rfl,b,rfl,?_⟩
    refine while_by (fun σ H' => ∃ x y r,σ = [some (.int x),some (.int y),r] ∧ H' = H ∧ 0 ≤ x ∧ 0 ≤ y ∧ Int.gcd x y = Int.gcd a b)
      (fun σ _ => match σ with | [_,some (.int y),_] => y.toNat | _ => 0) ⟨_,_,_,rfl,rfl,abs_nonneg a,abs_nonneg b,by rw [gcd_abs,gcd_abs']⟩ ?_ ?_
    · rintro σ H' ⟨x,y,r,rfl,rfl,hx,hy,hg⟩
      refine ⟨_,rfl,rfl,_,rfl,?_⟩
      refine ite3 (fun hc => ?_) (fun hc => ?_)
      · have hy0 : ¬ y = 0 := by simpa using hc
        have hy1 : 0 < y := by omega
        refine ⟨_,rfl,_,rfl,x,y,rfl,rfl,hy1,_,rfl,_,rfl,⟨y,x % y,_,rfl,rfl,hy,Int.emod_nonneg _ hy0,?_⟩,?_⟩
        · rw [gcd_step hx hy1]
          exact hg
        · have h1 := Int.emod_lt_of_pos x hy1
          have h2 := Int.emod_nonneg x hy0
          show (x % y).toNat < y.toNat
          omega
      · have hy0 : y = 0 := by simpa using hc
        subst hy0
        refine ⟨_,rfl,?_⟩
        have e : (Int.gcd a b : Int) = x := by rw [← hg]; exact gcd_zero hx
        rw [e] at q
        exact q
    · rintro σ H' Q1 Q2 hq ⟨v,e,hs,k,ek,r⟩
      exact ⟨v,e,hs,k,ek,hq _ _ r⟩
theorem S_ratio : FnScope ["top","bottom","divisor"] ["top","bottom"] (defScope (top 10)) := ⟨rfl,rfl,rfl,by decide +kernel,rfl,by decide +kernel,by decide +kernel⟩
theorem fn_ratio {C : Addr} (D_ratio : DfD K mg "ratio" (top 10) [.int 1]) (O_NoRatio : ExcC K mg "NoRatio" C) (F_is_whole : Fn P w K mg base "is_whole" ["thing"] 1 spWhole) (F_common_divisor : Fn P w K mg base "common_divisor" ["one","other"] 1 spGcd) : Fx P w K mg base "ratio" ["top","bottom"] 2 [.int 1] (spRatioN C) := by
  refine D_ratio.fx S_ratio (fun T kV doc pm an cdv ct us its oT n s hv hl ho hs => ?_) (fun T kV doc pm an cdv ct us its oT n s hv hl ho hs => ?_) (fun vs H Q E h => ?_) (fun f cdv A outer s H vs Q E hr h => ?_)
  · obtain ⟨u,rfl,_⟩ := vals1 hv
    match us,hl with
    | [_,_],_ => exact BindsTo.of_defaults rfl ho hs rfl rfl
  · obtain ⟨u,rfl,_⟩ := vals1 hv
    have hl1 : us.length = 1 := by simpa using hl
    match us,hl1 with
    | [_],_ => exact BindsTo.of_defaults rfl ho hs rfl rfl
  · obtain ⟨a,b,nb,rfl,_⟩ := h
    rfl
  · obtain ⟨a,b,nb,rfl,⟨ba,bb,hnb⟩,k0,k1⟩ := h
    refine ⟨_,(pss_cons (ps_if (pw_or (pt_not (pt_val (pe_fn F_is_whole (hr.mono (by decide)) (by rfl) (pa_cons (pv 0) pa_nil)))) (pw_or (pt_not (pt_val (pe_fn F_is_whole (hr.mono (by decide)) (by rfl) (pa_cons (pv 1) pa_nil)))) (pw_or1 (pt_cmpR op_eq (pv 1) pe_int (nomark _))))).pt (pss_one (ps_raise O_NoRatio (by rfl))) pss_nil) (pss_cons (ps_set (i := 2) S_ratio.nd rfl (Or.inl rfl) (pe_fn F_common_divisor (hr.mono (by decide)) (by rfl) (pa_cons (pv 0) (pa_cons (pv 1) pa_nil)))) (pss_cons (ps_if (pt_cmpR op_lt (pv 1) pe_int (nomark _)) (pss_one (ps_set (i := 2) S_ratio.nd rfl (Or.inl rfl) (pe_un un_neg (pv 2)))) pss_nil) (pss_one (ps_ret (pe_tup (pa_cons (pe_op op_fdivZ (pv 0) (pv 2)) (pa_cons (pe_op op_fdivZ (pv 1) (pv 2)) pa_nil)))))))),?_⟩
    refine ⟨_,rfl,_,_,rfl,.int a,_,rfl,iteF ?_⟩
    refine ⟨_,rfl,_,_,rfl,.int b,_,rfl,iteF ?_⟩
    refine ⟨_,rfl,rfl,_,rfl,?_⟩
    refine ite3 (fun hc => ?_) (fun hc => ?_)
    · exact k0 (by simpa using hc)
    · have hb : b ≠ 0 := by simpa using hc
      have hg := gcd_pos (a := a) (b := b) hb
      have bg : bits (Int.gcd a b : Int) ≤ 8000 := bits_le (gcd_bits2 hb bb) (by omega)
      refine ⟨_,rfl,_,rfl,a,b,rfl,?_⟩
      refine ⟨_,rfl,_,_,rfl,rfl,_,rfl,?_⟩
      refine ite3 (fun hd => ?_) (fun hd => ?_)
      · have hlt : b < 0 := by simpa using hd
        refine ⟨_,rfl,_,rfl,?_⟩
        refine ⟨_,rfl,_,rfl,_,_,rfl,rfl,⟨by omega,bits_neg bg⟩,_,rfl,_,rfl,_,_,rfl,rfl,⟨by omega,bits_neg bg⟩,sz (by simp),fun p hp => ?_⟩
        exact k1 hb p _ _ (frac_fdiv hb _ (by rw [if_pos hlt])) (bits_fdiv ba) (bits_fdiv bb) hp
      · have hlt : ¬ b < 0 := by simpa using hd
        refine ⟨_,rfl,_,rfl,_,_,rfl,rfl,⟨by omega,bg⟩,_,rfl,_,rfl,_,_,rfl,rfl,⟨by omega,bg⟩,sz (by simp),fun p hp => ?_⟩
        exact k1 hb p _ _ (frac_fdiv hb _ (by rw [if_neg hlt])) (bits_fdiv ba) (bits_fdiv bb) hp
theorem S_floor_of : FnScope ["a"] ["a"] (defScope (top 16)) := ⟨rfl,rfl,rfl,by decide +kernel,rfl,by decide +kernel,by decide +kernel⟩
theorem fn_floor_of (D_floor_of : Df K mg "floor_of" (top 16)) : Fn P w K mg base "floor_of" ["a"] 1 spFloor := by
  refine D_floor_of.fn S_floor_of (fun _ _ _ _ _ _ us hl => by obtain ⟨_,rfl⟩ := len1 hl; rfl) (fun vs H Q E h => ?_) (fun f cdv A outer s H vs Q E hr h => ?_)
  · obtain ⟨p,a,b,rfl,_⟩ := h
    rfl
  · obtain ⟨p,a,b,rfl,hp,⟨hb,bb⟩,k⟩ := h
    refine ⟨_,(pss_one (ps_ret (pe_op op_fdivP (pe_ix ix_tup (pv 0) pe_int (fun _ _ => rfl)) (pe_ix ix_tup (pv 0) pe_int (fun _ _ => rfl))))),?_⟩
    exact ⟨_,rfl,p,_,_,_,rfl,rfl,SqT.of hp,rfl,_,rfl,p,_,_,_,rfl,rfl,SqT.of hp,rfl,a,b,rfl,rfl,⟨hb,bits_le bb (by decide)⟩,k⟩
theorem S_is_ratio : FnScope ["thing"] ["thing"] (defScope (top 19)) := ⟨rfl,rfl,rfl,by decide +kernel,rfl,by decide +kernel,by decide +kernel⟩
theorem fn_is_ratio (D_is_ratio : Df K mg "is_ratio" (top 19)) (F_is_whole : Fn P w K mg base "is_whole" ["thing"] 1 spWhole) (F_common_divisor : Fn P w K mg base "common_divisor" ["one","other"] 1 spGcd) (T : Txt mg) : Fn P w K mg base "is_ratio" ["thing"] 2 spLow := by
  refine D_is_ratio.fn S_is_ratio (fun _ _ _ _ _ _ us hl => by obtain ⟨_,rfl⟩ := len1 hl; rfl) (fun vs H Q E h => ?_) (fun f cdv A outer s H vs Q E hr h => ?_)
  · obtain ⟨x,rfl,_⟩ := h
    rfl
  · obtain ⟨x,rfl,th,q⟩ := h
    obtain ⟨t,k⟩ := th.kn
    refine ⟨_,(pss_cons (ps_if (pw_or (pt_not (pt_val (pe_callB call_isinst (by rfl) T.z_isinstance bt_isinstance (pa_cons (pv 0) (pa_cons (pe_ty T.z_tuple bt_tuple) pa_nil))))) (pw_or1 (pt_cmpR op_ne (pe_callB call_len_seq (by rfl) T.z_len bt_len (pa_cons (pv 0) pa_nil)) pe_int (nomark _)))).pt (pss_one (ps_ret pe_bl)) pss_nil) (pss_cons (ps_if (pw_or (pt_not (pt_val (pe_fn F_is_whole (hr.mono (by decide)) (by rfl) (pa_cons (pe_ix ix_tup (pv 0) pe_int (fun _ _ => rfl)) pa_nil)))) (pw_or1 (pt_not (pt_val (pe_fn F_is_whole (hr.mono (by decide)) (by rfl) (pa_cons (pe_ix ix_tup (pv 0) pe_int (fun _ _ => rfl)) pa_nil)))))).pt (pss_one (ps_ret pe_bl)) pss_nil) (pss_one (ps_ret (pe_and (pe_cmpR op_ge (pe_ix ix_tup (pv 0) pe_int (fun _ _ => rfl)) pe_int (nomark _)) (pe_one (pe_cmpR op_eq (pe_fn F_common_divisor (hr.mono (by decide)) (by rfl) (pa_cons (pe_ix ix_tup (pv 0) pe_int (fun _ _ => rfl)) (pa_cons (pe_ix ix_tup (pv 0) pe_int (fun _ _ => rfl)) pa_nil))) pe_int (nomark _)))))))),?_⟩
    refine ⟨_,rfl,x,t,"tuple",rfl,k,.inr (.inr (.inl rfl)),_,rfl,?_⟩
    rcases Kn.cases_tup k with ⟨p,xs,rfl,e,rfl⟩ | ⟨hl,hs⟩
    · -- a tuple
      rw [lowV_tup e] at q
      refine iteF ?_
      refine ⟨_,rfl,p,xs,rfl,.inr (SqT.of e),rfl,_,rfl,?_⟩
      refine ite3 (fun hc => ?_) (fun hc => ?_)
      · have hn : xs.length ≠ 2 := by
          intro z
          rw [z] at hc
          exact absurd hc (by decide)
        rw [lowL_len hn] at q
        exact q
      · have hn : xs.length = 2 := by
          have z : (xs.length : Int) = 2 := by simpa using hc
          omega
        match xs,hn,e,q with
        | [y,z],_,e,q =>
          obtain ⟨ty,ky⟩ := th.parts p _ rfl e y (by simp)
          obtain ⟨tz,kz⟩ := th.parts p _ rfl e z (by simp)
          refine ⟨_,rfl,p,_,_,_,rfl,rfl,SqT.of e,rfl,y,ty,rfl,ky,_,rfl,?_⟩
          rcases Kn.cases_int ky with ⟨a,rfl,rfl⟩ | ⟨ny,ey⟩
          · refine iteF ?_
            refine ⟨_,rfl,p,_,_,_,rfl,rfl,SqT.of e,rfl,z,tz,rfl,kz,_,rfl,?_⟩
            rcases Kn.cases_int kz with ⟨b,rfl,rfl⟩ | ⟨nz,ez⟩
            · refine iteF ?_
              refine ⟨_,rfl,p,_,_,_,rfl,rfl,SqT.of e,rfl,b,1,rfl,rfl,_,rfl,?_⟩
              have q' : Q (.bl (lowB a b)) H := q
              unfold lowB at q'
              refine ite3 (fun hc => ?_) (fun hc => ?_)
              · refine ⟨_,rfl,p,_,_,_,rfl,rfl,SqT.of e,rfl,_,rfl,p,_,_,_,rfl,rfl,SqT.of e,rfl,a,b,rfl,rfl,?_⟩
                rw [hc,Bool.true_and] at q'
                have e1 : decide (V.int (Int.gcd a b : Int) = V.int 1) = decide (Int.gcd a b = 1) := by
                  rw [Bool.eq_iff_iff]
                  simp
                  omega
                rw [← e1] at q'
                exact q'
              · rw [hc,Bool.false_and] at q'
                exact q'
            · rw [ez,lowL_snd nz] at *
              exact q
          · rw [ey,lowL_fst ny] at *
            exact q
    · rw [hs]
      rw [hl] at q
      exact q
theorem S_last_of : FnScope ["line"] ["line"] (defScope (top 21)) := ⟨rfl,rfl,rfl,by decide +kernel,rfl,by decide +kernel,by decide +kernel⟩
theorem fn_last_of (D_last_of : Df K mg "last_of" (top 21)) (T : Txt mg) : Fn P w K mg base "last_of" ["line"] 1 spLast := by
  refine D_last_of.fn S_last_of (fun _ _ _ _ _ _ us hl => by obtain ⟨_,rfl⟩ := len1 hl; rfl) (fun vs H Q E h => ?_) (fun f cdv A outer s H vs Q E hr h => ?_)
  · obtain ⟨p,xs,rfl,_⟩ := h
    rfl
  · obtain ⟨p,xs,rfl,e,q⟩ := h
    exact ⟨_,(pss_one (ps_ret (pe_op op_sub (pe_callB call_len_seq (by rfl) T.z_len bt_len (pa_cons (pv 0) pa_nil)) pe_int))),_,rfl,p,xs,rfl,.inl (SqL.of e),_,_,rfl,rfl,q⟩
theorem S_is_place : FnScope ["line","thing"] ["line","thing"] (defScope (top 23)) := ⟨rfl,rfl,rfl,by decide +kernel,rfl,by decide +kernel,by decide +kernel⟩
theorem fn_is_place (D_is_place : Df K mg "is_place" (top 23)) (F_is_ratio : Fn P w K mg base "is_ratio" ["thing"] 2 spLow) (F_last_of : Fn P w K mg base "last_of" ["line"] 1 spLast) : Fn P w K mg base "is_place" ["line","thing"] 3 spIsPlace := by
  refine D_is_place.fn S_is_place (fun _ _ _ _ _ _ us hl => by obtain ⟨_,_,rfl⟩ := len2 hl; rfl) (fun vs H Q E h => ?_) (fun f cdv A outer s H vs Q E hr h => ?_)
  · obtain ⟨p,xs,x,rfl,_⟩ := h
    rfl
  · obtain ⟨p,xs,x,rfl,e,hl,th,q⟩ := h
    refine ⟨_,(pss_one (ps_ret (pe_and (pe_fn F_is_ratio (hr.mono (by decide)) (by rfl) (pa_cons (pv 1) pa_nil)) (pe_one (pe_chain op_le op_le pe_int (pe_ix ix_tup (pv 1) pe_int (fun _ _ => rfl)) (pe_op op_mulX (pe_fn F_last_of (hr.mono (by decide)) (by rfl) (pa_cons (pv 0) pa_nil)) (pe_ix ix_tup (pv 1) pe_int (fun _ _ => rfl)))))))),?_⟩
    refine ⟨_,rfl,x,rfl,th,_,rfl,ite3 (fun hc => ?_) (fun hc => ?_)⟩
    · obtain ⟨u,a,b,rfl,eu,lw⟩ := lowV_inv hc
      rw [placeV_tup eu,low_B lw,Bool.true_and] at q
      refine ⟨_,rfl,u,_,_,_,rfl,rfl,SqT.of eu,rfl,_,_,rfl,rfl,_,rfl,ite3 (fun hd => ?_) (fun hd => ?_)⟩
      · rw [hd,Bool.true_and] at q
        exact ⟨_,rfl,p,xs,rfl,e,_,rfl,u,_,_,_,rfl,rfl,SqT.of eu,rfl,_,_,rfl,rfl,CM.l (lt64s (by omega) (by omega)),_,_,rfl,rfl,q⟩
      · rw [hd,Bool.false_and] at q
        exact q
    · rw [placeV_low hc] at q
      exact q
theorem S_look_at_place : FnScope ["line","thing"] ["line","thing"] (defScope (top 24)) := ⟨rfl,rfl,rfl,by decide +kernel,rfl,by decide +kernel,by decide +kernel⟩
theorem fn_look_at_place {C : Addr} (D_look_at_place : Df K mg "look_at_place" (top 24)) (O_NoPlace : ExcC K mg "NoPlace" C) (F_is_place : Fn P w K mg base "is_place" ["line","thing"] 3 spIsPlace) : Fx P w K mg base "look_at_place" ["line","thing"] 4 [] (spLook C) := by
  refine D_look_at_place.fx S_look_at_place (fun _ _ _ _ _ _ us hl => by obtain ⟨_,_,rfl⟩ := len2 hl; rfl) (fun vs H Q E h => ?_) (fun f cdv A outer s H vs Q E hr h => ?_)
  · obtain ⟨p,xs,x,rfl,_⟩ := h
    rfl
  · obtain ⟨p,xs,x,rfl,e,hl,th,k0,k1⟩ := h
    refine ⟨_,(pss_one (ps_if (pt_not (pt_val (pe_fn F_is_place (hr.mono (by decide)) (by rfl) (pa_cons (pv 0) (pa_cons (pv 1) pa_nil))))) (pss_one (ps_raise O_NoPlace (by rfl))) pss_nil)),?_⟩
    refine ⟨_,rfl,_,rfl,p,xs,x,rfl,e,hl,th,_,rfl,ite3 (fun hc => ?_) (fun hc => ?_)⟩
    · exact k0 (by simpa using hc)
    · exact k1 (by simpa using hc)
theorem S_plus : FnScope ["a","b"] ["a","b"] (defScope (top 11)) := ⟨rfl,rfl,rfl,by decide +kernel,rfl,by decide +kernel,by decide +kernel⟩
theorem fn_plus {C : Addr} (D_plus : Df K mg "plus" (top 11)) (F_ratio : Fx P w K mg base "ratio" ["top","bottom"] 2 [.int 1] (spRatioN C)) : Fn P w K mg base "plus" ["a","b"] 3 (spBin (fun a b c d => a * d + c * b) (fun a b c d => b * d)) := by
  refine D_plus.fn S_plus (fun _ _ _ _ _ _ us hl => by obtain ⟨_,_,rfl⟩ := len2 hl; rfl) (fun vs H Q E h => ?_) (fun f cdv A outer s H vs Q E hr h => ?_)
  · obtain ⟨p,q,a,b,c,d,n,rfl,_⟩ := h
    rfl
  · obtain ⟨p,q,a,b,c,d,n,rfl,fp,fq,hn,hden,k⟩ := h
    have ep := fp.at_
    have eq := fq.at_
    have cm : ∀ {i j : Int},bits i ≤ n → bits j ≤ n → CM i j := fun hi hj => CM.b hi hj (Nat.le_trans hn (by decide)) (Nat.le_trans hn (by decide))
    have fin : ∀ (r : Addr) (t u : Int),Frac (a * d + c * b) (b * d) t u → bits t ≤ 2 * n + 1 → bits u ≤ 2 * n + 1 → H r = none → Q (.ref r) (upd H r (.tup [.int t,.int u])) := fun r t u fr bt bu hr' => by
      obtain ⟨H1,e1,s1,f1⟩ := grow (o := .tup [.int t,.int u]) hr'
      rw [e1]
      exact k r t u H1 fr ⟨f1,fr.low,bt,bu⟩ s1
    refine ⟨_,(pss_one (ps_ret (pe_fx0 F_ratio (hr.mono (by decide)) (by rfl) (pa_cons (pe_op op_add (pe_op op_mulX (pe_ix ix_tup (pv 0) pe_int (fun _ _ => rfl)) (pe_ix ix_tup (pv 1) pe_int (fun _ _ => rfl))) (pe_op op_mulX (pe_ix ix_tup (pv 1) pe_int (fun _ _ => rfl)) (pe_ix ix_tup (pv 0) pe_int (fun _ _ => rfl)))) (pa_cons (pe_op op_mulX (pe_ix ix_tup (pv 0) pe_int (fun _ _ => rfl)) (pe_ix ix_tup (pv 1) pe_int (fun _ _ => rfl))) pa_nil))))),?_⟩
    refine ⟨_,rfl,p,_,_,_,rfl,rfl,SqT.of ep,rfl,_,rfl,q,_,_,_,rfl,rfl,SqT.of eq,rfl,_,_,rfl,rfl,cm fp.ba fq.bb,_,rfl,q,_,_,_,rfl,rfl,SqT.of eq,rfl,_,rfl,p,_,_,_,rfl,rfl,SqT.of ep,rfl,_,_,rfl,rfl,cm fq.ba fp.bb,_,_,rfl,rfl,?_⟩
    refine ⟨_,rfl,p,_,_,_,rfl,rfl,SqT.of ep,rfl,_,rfl,q,_,_,_,rfl,rfl,SqT.of eq,rfl,_,_,rfl,rfl,cm fp.bb fq.bb,_,_,2 * n + 1,rfl,⟨bits_le (bits_add (n := 2 * n) (bits_le (bits_mul fp.ba fq.bb) (by omega)) (bits_le (bits_mul fq.ba fp.bb) (by omega))) (by omega),bits_le (bits_mul fp.bb fq.bb) (by omega),by omega⟩,fun z => absurd z hden,fun _ r t u fr bt bu hr' => fin r t u fr bt bu hr'⟩
theorem S_minus : FnScope ["a","b"] ["a","b"] (defScope (top 12)) := ⟨rfl,rfl,rfl,by decide +kernel,rfl,by decide +kernel,by decide +kernel⟩
theorem fn_minus {C : Addr} (D_minus : Df K mg "minus" (top 12)) (F_ratio : Fx P w K mg base "ratio" ["top","bottom"] 2 [.int 1] (spRatioN C)) : Fn P w K mg base "minus" ["a","b"] 3 (spBin (fun a b c d => a * d - c * b) (fun a b c d => b * d)) := by
  refine D_minus.fn S_minus (fun _ _ _ _ _ _ us hl => by obtain ⟨_,_,rfl⟩ := len2 hl; rfl) (fun vs H Q E h => ?_) (fun f cdv A outer s H vs Q E hr h => ?_)
  · obtain ⟨p,q,a,b,c,d,n,rfl,_⟩ := h
    rfl
  · obtain ⟨p,q,a,b,c,d,n,rfl,fp,fq,hn,hden,k⟩ := h
    have ep := fp.at_
    have eq := fq.at_
    have cm : ∀ {i j : Int},bits i ≤ n → bits j ≤ n → CM i j := fun hi hj => CM.b hi hj (Nat.le_trans hn (by decide)) (Nat.le_trans hn (by decide))
    have fin : ∀ (r : Addr) (t u : Int),Frac (a * d - c * b) (b * d) t u → bits t ≤ 2 * n + 1 → bits u ≤ 2 * n + 1 → H r = none → Q (.ref r) (upd H r (.tup [.int t,.int u])) := fun r t u fr bt bu hr' => by
      obtain ⟨H1,e1,s1,f1⟩ := grow (o := .tup [.int t,.int u]) hr'
      rw [e1]
      exact k r t u H1 fr ⟨f1,fr.low,bt,bu⟩ s1
    refine ⟨_,(pss_one (ps_ret (pe_fx0 F_ratio (hr.mono (by decide)) (by rfl) (pa_cons (pe_op op_sub (pe_op op_mulX (pe_ix ix_tup (pv 0) pe_int (fun _ _ => rfl)) (pe_ix ix_tup (pv 1) pe_int (fun _ _ => rfl))) (pe_op op_mulX (pe_ix ix_tup (pv 1) pe_int (fun _ _ => rfl)) (pe_ix ix_tup (pv 0) pe_int (fun _ _ => rfl)))) (pa_cons (pe_op op_mulX (pe_ix ix_tup (pv 0) pe_int (fun _ _ => rfl)) (pe_ix ix_tup (pv 1) pe_int (fun _ _ => rfl))) pa_nil))))),?_⟩
    refine ⟨_,rfl,p,_,_,_,rfl,rfl,SqT.of ep,rfl,_,rfl,q,_,_,_,rfl,rfl,SqT.of eq,rfl,_,_,rfl,rfl,cm fp.ba fq.bb,_,rfl,q,_,_,_,rfl,rfl,SqT.of eq,rfl,_,rfl,p,_,_,_,rfl,rfl,SqT.of ep,rfl,_,_,rfl,rfl,cm fq.ba fp.bb,_,_,rfl,rfl,?_⟩
    refine ⟨_,rfl,p,_,_,_,rfl,rfl,SqT.of ep,rfl,_,rfl,q,_,_,_,rfl,rfl,SqT.of eq,rfl,_,_,rfl,rfl,cm fp.bb fq.bb,_,_,2 * n + 1,rfl,⟨bits_le (bits_sub (n := 2 * n) (bits_le (bits_mul fp.ba fq.bb) (by omega)) (bits_le (bits_mul fq.ba fp.bb) (by omega))) (by omega),bits_le (bits_mul fp.bb fq.bb) (by omega),by omega⟩,fun z => absurd z hden,fun _ r t u fr bt bu hr' => fin r t u fr bt bu hr'⟩
theorem S_times : FnScope ["a","b"] ["a","b"] (defScope (top 13)) := ⟨rfl,rfl,rfl,by decide +kernel,rfl,by decide +kernel,by decide +kernel⟩
theorem fn_times {C : Addr} (D_times : Df K mg "times" (top 13)) (F_ratio : Fx P w K mg base "ratio" ["top","bottom"] 2 [.int 1] (spRatioN C)) : Fn P w K mg base "times" ["a","b"] 3 (spBin (fun a b c d => a * c) (fun a b c d => b * d)) := by
  refine D_times.fn S_times (fun _ _ _ _ _ _ us hl => by obtain ⟨_,_,rfl⟩ := len2 hl; rfl) (fun vs H Q E h => ?_) (fun f cdv A outer s H vs Q E hr h => ?_)
  · obtain ⟨p,q,a,b,c,d,n,rfl,_⟩ := h
    rfl
  · obtain ⟨p,q,a,b,c,d,n,rfl,fp,fq,hn,hden,k⟩ := h
    have ep := fp.at_
    have eq := fq.at_
    have cm : ∀ {i j : Int},bits i ≤ n → bits j ≤ n → CM i j := fun hi hj => CM.b hi hj (Nat.le_trans hn (by decide)) (Nat.le_trans hn (by decide))
    have fin : ∀ (r : Addr) (t u : Int),Frac (a * c) (b * d) t u → bits t ≤ 2 * n + 1 → bits u ≤ 2 * n + 1 → H r = none → Q (.ref r) (upd H r (.tup [.int t,.int u])) := fun r t u fr bt bu hr' => by
      obtain ⟨H1,e1,s1,f1⟩ := grow (o := .tup [.int t,.int u]) hr'
      rw [e1]
      exact k r t u H1 fr ⟨f1,fr.low,bt,bu⟩ s1
    refine ⟨_,(pss_one (ps_ret (pe_fx0 F_ratio (hr.mono (by decide)) (by rfl) (pa_cons (pe_op op_mulX (pe_ix ix_tup (pv 0) pe_int (fun _ _ => rfl)) (pe_ix ix_tup (pv 1) pe_int (fun _ _ => rfl))) (pa_cons (pe_op op_mulX (pe_ix ix_tup (pv 0) pe_int (fun _ _ => rfl)) (pe_ix ix_tup (pv 1) pe_int (fun _ _ => rfl))) pa_nil))))),?_⟩
    exact ⟨_,rfl,p,_,_,_,rfl,rfl,SqT.of ep,rfl,_,rfl,q,_,_,_,rfl,rfl,SqT.of eq,rfl,_,_,rfl,rfl,cm fp.ba fq.ba,_,rfl,p,_,_,_,rfl,rfl,SqT.of ep,rfl,_,rfl,q,_,_,_,rfl,rfl,SqT.of eq,rfl,_,_,rfl,rfl,cm fp.bb fq.bb,_,_,2 * n + 1,rfl,⟨bits_le (bits_mul fp.ba fq.ba) (by omega),bits_le (bits_mul fp.bb fq.bb) (by omega),by omega⟩,fun z => absurd z hden,fun _ r t u fr bt bu hr' => fin r t u fr bt bu hr'⟩
theorem S_over : FnScope ["a","b"] ["a","b"] (defScope (top 14)) := ⟨rfl,rfl,rfl,by decide +kernel,rfl,by decide +kernel,by decide +kernel⟩
theorem fn_over {C : Addr} (D_over : Df K mg "over" (top 14)) (F_ratio : Fx P w K mg base "ratio" ["top","bottom"] 2 [.int 1] (spRatioN C)) : Fn P w K mg base "over" ["a","b"] 3 (spBin (fun a b c d => a * d) (fun a b c d => b * c)) := by
  refine D_over.fn S_over (fun _ _ _ _ _ _ us hl => by obtain ⟨_,_,rfl⟩ := len2 hl; rfl) (fun vs H Q E h => ?_) (fun f cdv A outer s H vs Q E hr h => ?_)
  · obtain ⟨p,q,a,b,c,d,n,rfl,_⟩ := h
    rfl
  · obtain ⟨p,q,a,b,c,d,n,rfl,fp,fq,hn,hden,k⟩ := h
    have ep := fp.at_
    have eq := fq.at_
    have cm : ∀ {i j : Int},bits i ≤ n → bits j ≤ n → CM i j := fun hi hj => CM.b hi hj (Nat.le_trans hn (by decide)) (Nat.le_trans hn (by decide))
    have fin : ∀ (r : Addr) (t u : Int),Frac (a * d) (b * c) t u → bits t ≤ 2 * n + 1 → bits u ≤ 2 * n + 1 → H r = none → Q (.ref r) (upd H r (.tup [.int t,.int u])) := fun r t u fr bt bu hr' => by
      obtain ⟨H1,e1,s1,f1⟩ := grow (o := .tup [.int t,.int u]) hr'
      rw [e1]
      exact k r t u H1 fr ⟨f1,fr.low,bt,bu⟩ s1
    refine ⟨_,(pss_one (ps_ret (pe_fx0 F_ratio (hr.mono (by decide)) (by rfl) (pa_cons (pe_op op_mulX (pe_ix ix_tup (pv 0) pe_int (fun _ _ => rfl)) (pe_ix ix_tup (pv 1) pe_int (fun _ _ => rfl))) (pa_cons (pe_op op_mulX (pe_ix ix_tup (pv 0) pe_int (fun _ _ => rfl)) (pe_ix ix_tup (pv 1) pe_int (fun _ _ => rfl))) pa_nil))))),?_⟩
    exact ⟨_,rfl,p,_,_,_,rfl,rfl,SqT.of ep,rfl,_,rfl,q,_,_,_,rfl,rfl,SqT.of eq,rfl,_,_,rfl,rfl,cm fp.ba fq.bb,_,rfl,p,_,_,_,rfl,rfl,SqT.of ep,rfl,_,rfl,q,_,_,_,rfl,rfl,SqT.of eq,rfl,_,_,rfl,rfl,cm fp.bb fq.ba,_,_,2 * n + 1,rfl,⟨bits_le (bits_mul fp.ba fq.bb) (by omega),bits_le (bits_mul fp.bb fq.ba) (by omega),by omega⟩,fun z => absurd z hden,fun _ r t u fr bt bu hr' => fin r t u fr bt bu hr'⟩
theorem S_less : FnScope ["a","b"] ["a","b"] (defScope (top 15)) := ⟨rfl,rfl,rfl,by decide +kernel,rfl,by decide +kernel,by decide +kernel⟩
theorem fn_less (D_less : Df K mg "less" (top 15)) : Fn P w K mg base "less" ["a","b"] 1 spLs := by
  refine D_less.fn S_less (fun _ _ _ _ _ _ us hl => by obtain ⟨_,_,rfl⟩ := len2 hl; rfl) (fun vs H Q E h => ?_) (fun f cdv A outer s H vs Q E hr h => ?_)
  · obtain ⟨p,q,a,b,c,d,rfl,_⟩ := h
    rfl
  · obtain ⟨p,q,a,b,c,d,rfl,hp,hq,⟨ba,bb,bc,bd⟩,k⟩ := h
    refine ⟨_,(pss_one (ps_ret (pe_cmpR op_lt (pe_op op_mulX (pe_ix ix_tup (pv 0) pe_int (fun _ _ => rfl)) (pe_ix ix_tup (pv 1) pe_int (fun _ _ => rfl))) (pe_op op_mulX (pe_ix ix_tup (pv 1) pe_int (fun _ _ => rfl)) (pe_ix ix_tup (pv 0) pe_int (fun _ _ => rfl))) (nomark _)))),?_⟩
    refine ⟨_,rfl,p,_,_,_,rfl,rfl,SqT.of hp,rfl,_,rfl,q,_,_,_,rfl,rfl,SqT.of hq,rfl,a,d,rfl,rfl,CM.b ba bd (by decide) (by decide),?_⟩
    refine ⟨_,rfl,q,_,_,_,rfl,rfl,SqT.of hq,rfl,_,rfl,p,_,_,_,rfl,rfl,SqT.of hp,rfl,c,b,rfl,rfl,CM.b bc bb (by decide) (by decide),?_⟩
    exact ⟨_,_,rfl,rfl,k⟩
theorem S_number_at : FnScope ["begin","end","place","rest"] ["begin","end","place"] (defScope (top 27)) := ⟨rfl,rfl,rfl,by decide +kernel,rfl,by decide +kernel,by decide +kernel⟩
theorem fn_number_at {C : Addr} (D_number_at : Df K mg "number_at" (top 27)) (F_ratio : Fx P w K mg base "ratio" ["top","bottom"] 2 [.int 1] (spRatioN C)) : Fn P w K mg base "number_at" ["begin","end","place"] 3 spNumAt := by
  refine D_number_at.fn S_number_at (fun _ _ _ _ _ _ us hl => by obtain ⟨_,_,_,rfl⟩ := len3 hl; rfl) (fun vs H Q E h => ?_) (fun f cdv A outer s H vs Q E hr h => ?_)
  · obtain ⟨x,y,p,t,b,rfl,_⟩ := h
    rfl
  · obtain ⟨x,y,p,t,b,rfl,fp,bx,by',k⟩ := h
    have hb := fp.low.pos
    have ep := fp.at_
    have br : bits (t % b) ≤ 200 := bits_range (Int.emod_nonneg _ (by omega)) (Int.le_of_lt (Int.emod_lt_of_pos _ (by omega))) fp.bb
    refine ⟨_,(pss_cons (ps_set (i := 3) S_number_at.nd rfl (Or.inl rfl) (pe_op op_mod (pe_ix ix_tup (pv 2) pe_int (fun _ _ => rfl)) (pe_ix ix_tup (pv 2) pe_int (fun _ _ => rfl)))) (pss_one (ps_ret (pe_fx0 F_ratio (hr.mono (by decide)) (by rfl) (pa_cons (pe_op op_add (pe_op op_mulX (pv 0) (pe_ix ix_tup (pv 2) pe_int (fun _ _ => rfl))) (pe_op op_mulX (pe_op op_sub (pv 1) (pv 0)) (pv 3))) (pa_cons (pe_ix ix_tup (pv 2) pe_int (fun _ _ => rfl)) pa_nil)))))),?_⟩
    refine ⟨_,rfl,p,_,_,_,rfl,rfl,SqT.of ep,rfl,_,rfl,p,_,_,_,rfl,rfl,SqT.of ep,rfl,_,_,rfl,rfl,(by show (0 : Int) < b; omega),?_⟩
    refine ⟨_,rfl,_,rfl,p,_,_,_,rfl,rfl,SqT.of ep,rfl,_,_,rfl,rfl,CM.b bx fp.bb (by decide) (by decide),_,rfl,_,rfl,_,_,rfl,rfl,_,rfl,_,_,rfl,rfl,CM.b (bits_sub by' bx) br (by decide) (by decide),_,_,rfl,rfl,?_⟩
    refine ⟨_,rfl,p,_,_,_,rfl,rfl,SqT.of ep,rfl,_,_,262,rfl,⟨bits_le (bits_add (n := 261) (bits_le (bits_mul bx fp.bb) (by decide)) (bits_mul (bits_sub by' bx) br)) (by decide),bits_le fp.bb (by decide),by decide⟩,fun z => absurd z (by omega),fun _ r u v fr bu bv hr' => ?_⟩
    obtain ⟨H1,e1,s1,f1⟩ := grow (o := .tup [.int u,.int v]) hr'
    rw [e1]
    exact k r u v H1 fr ⟨f1,fr.low,bu,bv⟩ s1
theorem S_point_at : FnScope ["line","place","corner","begin","end"] ["line","place"] (defScope (top 28)) := ⟨rfl,rfl,rfl,by decide +kernel,rfl,by decide +kernel,by decide +kernel⟩
theorem fn_point_at {C : Addr} (D_point_at : Df K mg "point_at" (top 28)) (F_look_at_place : Fx P w K mg base "look_at_place" ["line","thing"] 4 [] (spLook C)) (F_floor_of : Fn P w K mg base "floor_of" ["a"] 1 spFloor) (F_last_of : Fn P w K mg base "last_of" ["line"] 1 spLast) (F_number_at : Fn P w K mg base "number_at" ["begin","end","place"] 3 spNumAt) (T : Txt mg) :
    Fx P w K mg base "point_at" ["line","place"] 5 [] (spPoint C) := by
  refine D_point_at.fx S_point_at (fun _ _ _ _ _ _ us hl => by obtain ⟨_,_,rfl⟩ := len2 hl; rfl) (fun vs H Q E h => ?_) (fun f cdv A outer s H vs Q E hr h => ?_)
  · obtain ⟨l,qs,x,rfl,_⟩ := h
    rfl
  · obtain ⟨l,qs,x,rfl,L,h1,h20,th,k0,k1⟩ := h
    have hll : (qs.map fun (q : Addr × Int × Int) => V.ref q.1).length = qs.length := List.length_map _
    refine ⟨_,(pss_cons (ps_expr (pe_fx F_look_at_place (hr.mono (by decide)) (by rfl) (pa_cons (pv 0) (pa_cons (pv 1) pa_nil)))) (pss_cons (ps_set (i := 2) S_point_at.nd rfl (Or.inl rfl) (pe_fn F_floor_of (hr.mono (by decide)) (by rfl) (pa_cons (pv 1) pa_nil))) (pss_cons (ps_set (i := 3) S_point_at.nd rfl (Or.inl rfl) (pe_ix ix_list (pv 0) (pv 2) (fun _ _ => rfl))) (pss_cons (ps_set (i := 4) S_point_at.nd rfl (Or.inl rfl) (pe_ix ix_list (pv 0) (pe_callB (call_min2 rfl) (by rfl) T.z_min bt_min (pa_cons (pe_op op_add (pv 2) pe_int) (pa_cons (pe_fn F_last_of (hr.mono (by decide)) (by rfl) (pa_cons (pv 0) pa_nil)) pa_nil))) (fun _ _ => rfl))) (pss_one (ps_ret (pe_tup (pa_cons (pe_fn F_number_at (hr.mono (by decide)) (by rfl) (pa_cons (pe_ix ix_tup (pv 3) pe_int (fun _ _ => rfl)) (pa_cons (pe_ix ix_tup (pv 4) pe_int (fun _ _ => rfl)) (pa_cons (pv 1) pa_nil)))) (pa_cons (pe_fn F_number_at (hr.mono (by decide)) (by rfl) (pa_cons (pe_ix ix_tup (pv 3) pe_int (fun _ _ => rfl)) (pa_cons (pe_ix ix_tup (pv 4) pe_int (fun _ _ => rfl)) (pa_cons (pv 1) pa_nil)))) pa_nil))))))))),?_⟩
    refine ⟨_,rfl,_,rfl,l,_,x,rfl,L.lst,by rw [hll]; omega,th,fun z => k0 (by rw [hll] at z; exact z),fun hx => ?_⟩
    rw [hll] at hx
    obtain ⟨p,t,b,rfl,ep,lw,t0,t1⟩ := placeV_inv hx
    obtain ⟨bt,bb,k⟩ := k1 p t b rfl ep lw t0 t1
    have hb := lw.pos
    have fp : Fr2 H p t b 200 := ⟨ep,lw,bt,bb⟩
    have q0 : 0 ≤ t / b := fl_nn (by omega) t0
    have qn : t / b ≤ (qs.length : Int) - 1 := Int.ediv_le_of_le_mul (by omega) t1
    refine ⟨_,rfl,p,t,b,rfl,ep,⟨by omega,bits_le bb (by decide)⟩,?_⟩
    have atq : ∀ (j : Nat) (k : Int),k = (j : Int) → j < qs.length → atI (qs.map fun (q : Addr × Int × Int) => V.ref q.1) k = some (.ref (qs.getD j (0,0,0)).1) ∧ qs.getD j (0,0,0) ∈ qs := fun j k ek hj => by
      have e1 : qs.getD j (0,0,0) = qs[j] := by rw [List.getD_eq_getElem?_getD,List.getElem?_eq_getElem hj]; rfl
      rw [e1]
      subst ek
      exact ⟨atI_nat (by rw [List.getElem?_map,List.getElem?_eq_getElem hj]; rfl),List.getElem_mem hj⟩
    obtain ⟨a0,m0⟩ := atq (t / b).toNat (t / b) (by omega) (by omega)
    refine ⟨_,rfl,_,rfl,l,_,_,_,rfl,rfl,SqL.of L.lst,a0,?_⟩
    obtain ⟨a1,m1⟩ := atq (min ((t / b).toNat + 1) (qs.length - 1)) (if ((((qs.map fun (q : Addr × Int × Int) => V.ref q.1).length : Nat) : Int) - 1) < t / b + 1 then ((((qs.map fun (q : Addr × Int × Int) => V.ref q.1).length : Nat) : Int) - 1) else t / b + 1) (by rw [hll]; split <;> omega) (by omega)
    refine ⟨_,rfl,_,rfl,_,_,rfl,rfl,_,rfl,l,_,rfl,L.lst,_,_,rfl,l,_,_,_,rfl,rfl,SqL.of L.lst,a1,?_⟩
    have c0 := L.crn _ m0
    have c1 := L.crn _ m1
    refine ⟨_,rfl,_,_,_,_,rfl,rfl,SqT.of c0.1,rfl,_,rfl,_,_,_,_,rfl,rfl,SqT.of c1.1,rfl,_,rfl,_,_,p,t,b,rfl,fp,bits_le c0.2.1 (by decide),bits_le c1.2.1 (by decide),fun rx u v H1 fr1 g1 s1 => ?_⟩
    refine ⟨_,rfl,_,_,_,_,rfl,rfl,SqT.of (s1 _ _ c0.1),rfl,_,rfl,_,_,_,_,rfl,rfl,SqT.of (s1 _ _ c1.1),rfl,_,rfl,_,_,p,t,b,rfl,fp.mono s1,bits_le c0.2.2 (by decide),bits_le c1.2.2 (by decide),fun ry c d H2 fr2 g2 s2 => ?_⟩
    refine ⟨sz (by simp),fun r hr' => ?_⟩
    obtain ⟨H3,e3,s3,f3⟩ := grow (o := .tup [.ref rx,.ref ry]) hr'
    rw [e3]
    exact k r H3 ⟨⟨rx,ry,u,v,c,d,f3,(g1.mono s2).mono s3,g2.mono s3,fr1,fr2⟩⟩ (s1.trans (s2.trans s3))
theorem S_step_from : FnScope ["begin","end"] ["begin","end"] (defScope (top 30)) := ⟨rfl,rfl,rfl,by decide +kernel,rfl,by decide +kernel,by decide +kernel⟩
theorem fn_step_from (D_step_from : Df K mg "step_from" (top 30)) (F_minus : Fn P w K mg base "minus" ["a","b"] 3 (spBin (fun a b c d => a * d - c * b) (fun a b c d => b * d))) : Fn P w K mg base "step_from" ["begin","end"] 4 spStep := by
  refine D_step_from.fn S_step_from (fun _ _ _ _ _ _ us hl => by obtain ⟨_,_,rfl⟩ := len2 hl; rfl) (fun vs H Q E h => ?_) (fun f cdv A outer s H vs Q E hr h => ?_)
  · obtain ⟨p,q,u,v,c,d,u',v',c',d',rfl,_⟩ := h
    rfl
  · obtain ⟨p,q,u,v,c,d,u',v',c',d',rfl,fp,fq,k⟩ := h
    obtain ⟨px,py,ep,gx,gy⟩ := fp.ex
    obtain ⟨qx,qy,eq,hx,hy⟩ := fq.ex
    have nz : ∀ {x y : Int},1 ≤ x → 1 ≤ y → x * y ≠ 0 := fun hx hy => Int.mul_ne_zero (by omega) (by omega)
    refine ⟨_,(pss_one (ps_ret (pe_tup (pa_cons (pe_fn F_minus (hr.mono (by decide)) (by rfl) (pa_cons (pe_ix ix_tup (pv 1) pe_int (fun _ _ => rfl)) (pa_cons (pe_ix ix_tup (pv 0) pe_int (fun _ _ => rfl)) pa_nil))) (pa_cons (pe_fn F_minus (hr.mono (by decide)) (by rfl) (pa_cons (pe_ix ix_tup (pv 1) pe_int (fun _ _ => rfl)) (pa_cons (pe_ix ix_tup (pv 0) pe_int (fun _ _ => rfl)) pa_nil))) pa_nil))))),?_⟩
    refine ⟨_,rfl,q,_,_,_,rfl,rfl,SqT.of eq,rfl,_,rfl,p,_,_,_,rfl,rfl,SqT.of ep,rfl,qx,px,u',v',u,v,262,rfl,hx,gx,by decide,nz hx.low.pos gx.low.pos,fun r1 a b H1 fr1 g1 s1 => ?_⟩
    refine ⟨_,rfl,q,_,_,_,rfl,rfl,SqT.of (s1 _ _ eq),rfl,_,rfl,p,_,_,_,rfl,rfl,SqT.of (s1 _ _ ep),rfl,qy,py,c',d',c,d,262,rfl,hy.mono s1,gy.mono s1,by decide,nz hy.low.pos gy.low.pos,fun r2 e f H2 fr2 g2 s2 => ?_⟩
    refine ⟨sz (by simp),fun r hr' => ?_⟩
    obtain ⟨H3,e3,s3,f3⟩ := grow (o := .tup [.ref r1,.ref r2]) hr'
    rw [e3]
    exact k r a b e f H3 fr1 fr2 ⟨⟨r1,r2,f3,(g1.mono s2).mono s3,g2.mono s3⟩⟩ (s1.trans (s2.trans s3))
theorem S_inner_product : FnScope ["one","other"] ["one","other"] (defScope (top 31)) := ⟨rfl,rfl,rfl,by decide +kernel,rfl,by decide +kernel,by decide +kernel⟩
theorem fn_inner_product (D_inner_product : Df K mg "inner_product" (top 31)) (F_plus : Fn P w K mg base "plus" ["a","b"] 3 (spBin (fun a b c d => a * d + c * b) (fun a b c d => b * d))) (F_times : Fn P w K mg base "times" ["a","b"] 3 (spBin (fun a b c d => a * c) (fun a b c d => b * d))) : Fn P w K mg base "inner_product" ["one","other"] 4 spInner := by
  refine D_inner_product.fn S_inner_product (fun _ _ _ _ _ _ us hl => by obtain ⟨_,_,rfl⟩ := len2 hl; rfl) (fun vs H Q E h => ?_) (fun f cdv A outer s H vs Q E hr h => ?_)
  · obtain ⟨p,q,a,b,e,f,a',b',e',f',rfl,_⟩ := h
    rfl
  · obtain ⟨p,q,a,b,e,f,a',b',e',f',rfl,fp,fq,k⟩ := h
    obtain ⟨qx,qy,eq,hx,hy⟩ := fq.ex
    obtain ⟨px,py,ep,gx,gy⟩ := fp.ex
    have nz : ∀ {x y : Int},1 ≤ x → 1 ≤ y → x * y ≠ 0 := fun hx hy => Int.mul_ne_zero (by omega) (by omega)
    refine ⟨_,(pss_one (ps_ret (pe_fn F_plus (hr.mono (by decide)) (by rfl) (pa_cons (pe_fn F_times (hr.mono (by decide)) (by rfl) (pa_cons (pe_ix ix_tup (pv 0) pe_int (fun _ _ => rfl)) (pa_cons (pe_ix ix_tup (pv 1) pe_int (fun _ _ => rfl)) pa_nil))) (pa_cons (pe_fn F_times (hr.mono (by decide)) (by rfl) (pa_cons (pe_ix ix_tup (pv 0) pe_int (fun _ _ => rfl)) (pa_cons (pe_ix ix_tup (pv 1) pe_int (fun _ _ => rfl)) pa_nil))) pa_nil))))),?_⟩
    refine ⟨_,rfl,p,_,_,_,rfl,rfl,SqT.of ep,rfl,_,rfl,q,_,_,_,rfl,rfl,SqT.of eq,rfl,px,qx,a,b,a',b',525,rfl,gx,hx,by decide,nz gx.low.pos hx.low.pos,fun r1 m n H1 fr1 g1 s1 => ?_⟩
    refine ⟨_,rfl,p,_,_,_,rfl,rfl,SqT.of (s1 _ _ ep),rfl,_,rfl,q,_,_,_,rfl,rfl,SqT.of (s1 _ _ eq),rfl,py,qy,e,f,e',f',525,rfl,gy.mono s1,hy.mono s1,by decide,nz gy.low.pos hy.low.pos,fun r2 m' n' H2 fr2 g2 s2 => ?_⟩
    exact ⟨r1,r2,m,n,m',n',1051,rfl,g1.mono s2,g2,by decide,nz g1.low.pos g2.low.pos,fun r s' w' H3 fr3 g3 s3 => k r m n m' n' s' w' H3 fr1 fr2 fr3 g3 (s1.trans (s2.trans s3))⟩
theorem S_square_between : FnScope ["begin","end","step"] ["begin","end"] (defScope (top 32)) := ⟨rfl,rfl,rfl,by decide +kernel,rfl,by decide +kernel,by decide +kernel⟩
theorem fn_square_between (D_square_between : Df K mg "square_between" (top 32)) (F_step_from : Fn P w K mg base "step_from" ["begin","end"] 4 spStep) (F_inner_product : Fn P w K mg base "inner_product" ["one","other"] 4 spInner) : Fn P w K mg base "square_between" ["begin","end"] 5 spSqB := by
  refine D_square_between.fn S_square_between (fun _ _ _ _ _ _ us hl => by obtain ⟨_,_,rfl⟩ := len2 hl; rfl) (fun vs H Q E h => ?_) (fun f cdv A outer s H vs Q E hr h => ?_)
  · obtain ⟨p,q,X,Y,b,X',Y',b',rfl,_⟩ := h
    rfl
  · obtain ⟨p,q,X,Y,b,X',Y',b',rfl,fp,fq,hb,hb',k⟩ := h
    obtain ⟨px,py,u,v,c,d,ep,gx,gy,f1,f2⟩ := fp.ex
    obtain ⟨qx,qy,u',v',c',d',eq,hx,hy,f3,f4⟩ := fq.ex
    refine ⟨_,(pss_cons (ps_set (i := 2) S_square_between.nd rfl (Or.inl rfl) (pe_fn F_step_from (hr.mono (by decide)) (by rfl) (pa_cons (pv 0) (pa_cons (pv 1) pa_nil)))) (pss_one (ps_ret (pe_fn F_inner_product (hr.mono (by decide)) (by rfl) (pa_cons (pv 2) (pa_cons (pv 2) pa_nil)))))),?_⟩
    refine ⟨_,rfl,_,rfl,p,q,u,v,c,d,u',v',c',d',rfl,⟨⟨px,py,ep,gx,gy⟩⟩,⟨⟨qx,qy,eq,hx,hy⟩⟩,fun r a e a' e' H1 g1 g2 pf s1 => ?_⟩
    exact ⟨_,rfl,_,rfl,r,r,a,e,a',e',a,e,a',e',rfl,pf,pf,fun r2 m n m' n' s' w' H2 k1 k2 k3 g3 s2 => k r2 s' w' H2 (sq_frac f1 f2 f3 f4 g1 g2 k1 k2 k3) g3 (s1.trans s2)⟩
theorem S_square_of : FnScope ["one","x","other","y"] ["one","x","other","y"] (defScope (top 33)) := ⟨rfl,rfl,rfl,by decide +kernel,rfl,by decide +kernel,by decide +kernel⟩
theorem fn_square_of {C : Addr} (D_square_of : Df K mg "square_of" (top 33)) (F_square_between : Fn P w K mg base "square_between" ["begin","end"] 5 spSqB) (F_point_at : Fx P w K mg base "point_at" ["line","place"] 5 [] (spPoint C)) : Fx P w K mg base "square_of" ["one","x","other","y"] 6 [] (spSquare C) := by
  refine D_square_of.fx S_square_of (fun _ _ _ _ _ _ us hl => by obtain ⟨_,_,_,_,rfl⟩ := len4 hl; rfl) (fun vs H Q E h => ?_) (fun f cdv A outer s H vs Q E hr h => ?_)
  · obtain ⟨l,l',qs,qs',x,y,rfl,_⟩ := h
    rfl
  · obtain ⟨l,l',qs,qs',x,y,rfl,L,L',h1,h1',tx,ty,h⟩ := h
    refine ⟨_,(pss_one (ps_ret (pe_fn F_square_between (hr.mono (by decide)) (by rfl) (pa_cons (pe_fx F_point_at (hr.mono (by decide)) (by rfl) (pa_cons (pv 0) (pa_cons (pv 1) pa_nil))) (pa_cons (pe_fx F_point_at (hr.mono (by decide)) (by rfl) (pa_cons (pv 2) (pa_cons (pv 3) pa_nil))) pa_nil))))),?_⟩
    refine ⟨_,rfl,_,rfl,l,qs,x,rfl,L,h1.1,h1.2,tx,fun z => ?_,fun p t b ep eH lw t0 t1 => ?_⟩
    · rcases h with h | ⟨p,t,b,rfl,pl,_⟩
      · exact h.2
      · rw [show placeV ((qs.length : Int) - 1) H (.ref p) = true from pl.place] at z
        cases z
    rcases h with h | ⟨p',t',b',rfl,pl,h⟩
    · subst ep
      have z := h.1
      rw [show placeV (lst_ qs) H (.ref p) = true from placeV_of eH lw t0 t1] at z
      cases z
    cases ep
    have e2 := pl.at_
    rw [eH] at e2
    cases e2
    refine ⟨pl.bt,pl.bb,fun r H1 pt s1 => ?_⟩
    refine ⟨_,rfl,_,rfl,l',qs',y,rfl,L'.mono s1,h1'.1,h1'.2,Thing.mono ty s1,fun z => ?_,fun q u c eq' eH' lw' u0 u1 => ?_⟩
    · rcases h with h | ⟨q,u,c,rfl,pl',_⟩
      · exact h.2 H1 s1
      · rw [show placeV ((qs'.length : Int) - 1) H1 (.ref q) = true from (pl'.mono s1).place] at z
        cases z
    rcases h with h | ⟨q',u',c',rfl,pl',k⟩
    · subst eq'
      have z := h.1
      obtain ⟨kd,kn⟩ := ty.kn
      rw [← placeV_same kn s1,show placeV (lst_ qs') H1 (.ref q) = true from placeV_of eH' lw' u0 u1] at z
      cases z
    cases eq'
    have e3 := (pl'.mono s1).at_
    rw [eH'] at e3
    cases e3
    refine ⟨pl'.bt,pl'.bb,fun r' H2 pt' s2 => ?_⟩
    have hb := lw.pos
    have hc := lw'.pos
    exact ⟨r,r',_,_,_,_,_,_,rfl,pt.mono s2,pt',by omega,by omega,fun r2 s' w' H3 fr f3 s3 => k r2 s' w' H3 fr f3 (s1.trans (s2.trans s3))⟩
theorem S_share_a_stretch : FnScope ["one","other","low","high"] ["one","other"] (defScope (top 29)) := ⟨rfl,rfl,rfl,by decide +kernel,rfl,by decide +kernel,by decide +kernel⟩
theorem fn_share_a_stretch {C : Addr} (D_share_a_stretch : Df K mg "share_a_stretch" (top 29)) (F_less : Fn P w K mg base "less" ["a","b"] 1 spLess) (F_floor_of : Fn P w K mg base "floor_of" ["a"] 1 spFloor) (F_ratio : Fx P w K mg base "ratio" ["top","bottom"] 2 [.int 1] (spRatio C)) : Fn P w K mg base "share_a_stretch" ["one","other"] 3 spShare := by
  refine D_share_a_stretch.fn S_share_a_stretch (fun _ _ _ _ _ _ us hl => by obtain ⟨_,_,rfl⟩ := len2 hl; rfl) (fun vs H Q E h => ?_) (fun f cdv A outer s H vs Q E hr h => ?_)
  · obtain ⟨p,q,a,b,c,d,rfl,_⟩ := h
    rfl
  · obtain ⟨p,q,a,b,c,d,rfl,ep,eq,sa,sc,k⟩ := h
    have R : ∃ u : TS,PSs (cxOf CX0 P w K mg base ["one","other","low","high"] "share_a_stretch" (defScope (top 29)) f cdv A outer s H E).nox ((defBody (top 29)).drop 3) u ∧ ∀ (z1 z2 : Option V) (lo hi : Addr) (a b c d : Int),H lo = some (.tup [.int a,.int b]) → H hi = some (.tup [.int c,.int d]) → Small a b → Small c d →
        (∀ H',Same H H' → Q (.bl (!decide ((a / b + 1) * d < c * 1))) H') → u { nx := fun _ H' => Q .non H',rt := Q } [z1,z2,some (.ref lo),some (.ref hi)] H := by
      refine ⟨_,(pss_one (ps_ret (pe_not (pe_fn F_less (hr.mono (by decide)) (by rfl) (pa_cons (pe_fxd0 F_ratio (hr.mono (by decide)) (by rfl) (pa_cons (pe_op op_add (pe_fn F_floor_of (hr.mono (by decide)) (by rfl) (pa_cons (pv 2) pa_nil)) pe_int) pa_nil)) (pa_cons (pv 3) pa_nil)))))),?_⟩
      intro z1 z2 lo hi a b c d elo ehi sa sc k
      have b1 : bits 1 ≤ 2000 := bits_le (m := 1) (by decide) (by decide)
      have bf : bits (a / b + 1) ≤ 1001 := bits_add (bits_ediv sa.pos sa.ba) (bits_le (m := 1) (by decide) (by decide))
      refine ⟨_,rfl,lo,a,b,rfl,elo,⟨sa.pos,bits_le sa.bb (by decide)⟩,_,_,rfl,rfl,_,1,rfl,⟨bits_le bf (by decide),b1⟩,fun z => absurd z (by decide),fun _ r t u fr bt bu hr' => ?_⟩
      obtain ⟨et,eu⟩ := frac_unique (by decide) fr (frac_self ⟨Int.le_refl 1,Int.gcd_one⟩)
      subst et eu
      obtain ⟨H1,e1,s1,f1⟩ := grow (o := .tup [.int (a / b + 1),.int 1]) hr'
      rw [e1]
      exact ⟨_,rfl,r,hi,a / b + 1,1,c,d,rfl,f1,s1 _ _ ehi,⟨bits_le bf (by decide),b1,bits_le sc.ba (by decide),bits_le sc.bb (by decide)⟩,_,rfl,k H1 s1⟩
    obtain ⟨u,hu,rd⟩ := R
    refine ⟨_,(pss_cons (ps_set (i := 2) S_share_a_stretch.nd rfl (Or.inl rfl) (pv 0)) (pss_cons (ps_set (i := 3) S_share_a_stretch.nd rfl (Or.inl rfl) (pv 1)) (pss_cons (ps_if (pt_val (pe_fn F_less (hr.mono (by decide)) (by rfl) (pa_cons (pv 1) (pa_cons (pv 0) pa_nil)))) (pss_cons (ps_set (i := 2) S_share_a_stretch.nd rfl (Or.inl rfl) (pv 1)) (pss_one (ps_set (i := 3) S_share_a_stretch.nd rfl (Or.inl rfl) (pv 0)))) pss_nil) hu))),?_⟩
    refine ⟨_,rfl,_,rfl,?_⟩
    refine ⟨_,rfl,_,rfl,q,p,c,d,a,b,rfl,eq,ep,⟨bits_le sc.ba (by decide),bits_le sc.bb (by decide),bits_le sa.ba (by decide),bits_le sa.bb (by decide)⟩,_,rfl,ite3 (fun hc => ?_) (fun hc => ?_)⟩
    · have h : c * b < a * d := by simpa using hc
      refine ⟨_,rfl,_,rfl,rd _ _ q p c d a b eq ep sc sa fun H' s' => ?_⟩
      have z := k H' s'
      unfold shareB at z
      rw [if_pos h] at z
      exact z
    · have h : ¬ c * b < a * d := by simpa using hc
      refine rd _ _ p q a b c d ep eq sa sc fun H' s' => ?_
      have z := k H' s'
      unfold shareB at z
      rw [if_neg h] at z
      exact z
theorem S_nearest_part : FnScope ["point","begin","end","step","part"] ["point","begin","end"] (defScope (top 34)) := ⟨rfl,rfl,rfl,by decide +kernel,rfl,by decide +kernel,by decide +kernel⟩
theorem fn_nearest_part (D_nearest_part : Df K mg "nearest_part" (top 34)) (F_step_from : Fn P w K mg base "step_from" ["begin","end"] 4 spStep) (F_inner_product : Fn P w K mg base "inner_product" ["one","other"] 4 spInner) (F_over : Fn P w K mg base "over" ["a","b"] 3 (spBin (fun a b c d => a * d) (fun a b c d => b * c))) (F_less : Fn P w K mg base "less" ["a","b"] 1 spLs) : Fn P w K mg base "nearest_part" ["point","begin","end"] 5 spNear := by
  refine D_nearest_part.fn S_nearest_part (fun _ _ _ _ _ _ us hl => by obtain ⟨_,_,_,rfl⟩ := len3 hl; rfl) (fun vs H Q E h => ?_) (fun f cdv A outer s H vs Q E hr h => ?_)
  · obtain ⟨p,p1,p2,X,Y,b,X1,Y1,b1,X2,Y2,b2,rfl,_⟩ := h
    rfl
  · obtain ⟨p,p1,p2,X,Y,b,X1,Y1,b1,X2,Y2,b2,rfl,pt,pt1,pt2,hb,hb1,hb2,k⟩ := h
    refine ⟨_,(pss_cons (ps_if (pt_cmpR (op_eqD hr.units10) (pv 1) (pv 2) (nomark _)) (pss_one (ps_ret (pe_tupA (pa_cons pe_int (pa_cons pe_int pa_nil))))) pss_nil) (pss_cons (ps_set (i := 3) S_nearest_part.nd rfl (Or.inl rfl) (pe_fn F_step_from (hr.mono (by decide)) (by rfl) (pa_cons (pv 1) (pa_cons (pv 2) pa_nil)))) (pss_cons (ps_set (i := 4) S_nearest_part.nd rfl (Or.inl rfl) (pe_fn F_over (hr.mono (by decide)) (by rfl) (pa_cons (pe_fn F_inner_product (hr.mono (by decide)) (by rfl) (pa_cons (pe_fn F_step_from (hr.mono (by decide)) (by rfl) (pa_cons (pv 1) (pa_cons (pv 0) pa_nil))) (pa_cons (pv 3) pa_nil))) (pa_cons (pe_fn F_inner_product (hr.mono (by decide)) (by rfl) (pa_cons (pv 3) (pa_cons (pv 3) pa_nil))) pa_nil)))) (pss_cons (ps_if (pt_val (pe_fn F_less (hr.mono (by decide)) (by rfl) (pa_cons (pv 4) (pa_cons (pe_tupA (pa_cons pe_int (pa_cons pe_int pa_nil))) pa_nil)))) (pss_one (ps_ret (pe_tupA (pa_cons pe_int (pa_cons pe_int pa_nil))))) pss_nil) (pss_cons (ps_if (pt_val (pe_fn F_less (hr.mono (by decide)) (by rfl) (pa_cons (pe_tupA (pa_cons pe_int (pa_cons pe_int pa_nil))) (pa_cons (pv 4) pa_nil)))) (pss_one (ps_ret (pe_tupA (pa_cons pe_int (pa_cons pe_int pa_nil))))) pss_nil) (pss_one (ps_ret (pv 4)))))))),?_⟩
    obtain ⟨px,py,u,v,c,d,ep,gx,gy,f1,f2⟩ := pt.ex
    obtain ⟨qx,qy,u1,v1,c1,d1,eq,hx,hy,f3,f4⟩ := pt1.ex
    obtain ⟨rx,ry,u2,v2,c2,d2,er,kx,ky,f5,f6⟩ := pt2.ex
    have F0 : PtF H p u v c d 262 := ⟨⟨px,py,ep,gx,gy⟩⟩
    have F1 : PtF H p1 u1 v1 c1 d1 262 := ⟨⟨qx,qy,eq,hx,hy⟩⟩
    have F2 : PtF H p2 u2 v2 c2 d2 262 := ⟨⟨rx,ry,er,kx,ky⟩⟩
    have b01 : bits 0 ≤ 4207 ∧ bits 1 ≤ 4207 := ⟨by decide,by decide⟩
    have Z : ∀ {H' : Hp} {r : Addr},H' r = some (.tup [.int 0,.int 1]) → Fr2 H' r 0 1 4207 := fun e => ⟨e,⟨by decide,by decide⟩,b01.1,b01.2⟩
    have O : ∀ {H' : Hp} {r : Addr},H' r = some (.tup [.int 1,.int 1]) → Fr2 H' r 1 1 4207 := fun e => ⟨e,⟨by decide,by decide⟩,b01.2,b01.2⟩
    refine ⟨_,rfl,_,rfl,_,_,pt_rp F1,pt_rp F2,_,rfl,ite3 (fun h1 => ?_) (fun h1 => ?_)⟩
    · have h1 : (u1 = u2 ∧ v1 = v2) ∧ (c1 = c2 ∧ d1 = d2) := by simpa [deq,deqs] using h1
      exact ⟨sz (by simp),fun r H1 s1 f1' _ => k r 0 1 H1 (Z f1') (.inl ⟨⟨(fr_same (by omega) (by omega) f3 f5).mpr h1.1,(fr_same (by omega) (by omega) f4 f6).mpr h1.2⟩,rfl,rfl⟩) s1⟩
    have h1 : ¬ ((u1 = u2 ∧ v1 = v2) ∧ (c1 = c2 ∧ d1 = d2)) := by simpa [deq,deqs] using h1
    have hS : 0 < (X2 * b1 - X1 * b2) * (X2 * b1 - X1 * b2) + (Y2 * b1 - Y1 * b2) * (Y2 * b1 - Y1 * b2) := by
      have q : ∀ x : Int,0 ≤ x * x := fun x => le_prod (by omega)
      have q1 := q (X2 * b1 - X1 * b2)
      have q2 := q (Y2 * b1 - Y1 * b2)
      by_cases z : (X2 * b1 - X1 * b2) * (X2 * b1 - X1 * b2) + (Y2 * b1 - Y1 * b2) * (Y2 * b1 - Y1 * b2) = 0
      · obtain ⟨z1,z2⟩ := sq_zero z
        exact absurd ⟨(fr_same (by omega) (by omega) f3 f5).mp (by omega),(fr_same (by omega) (by omega) f4 f6).mp (by omega)⟩ h1
      · omega
    have hN : 0 < nN b X1 Y1 b1 X2 Y2 b2 := Int.mul_pos hb hS
    refine ⟨_,rfl,_,rfl,p1,p2,u1,v1,c1,d1,u2,v2,c2,d2,rfl,F1,F2,fun st a e a' e' H1 g1 g2 pf s1 => ?_⟩
    refine ⟨_,rfl,_,rfl,p1,p,u1,v1,c1,d1,u,v,c,d,rfl,F1.mono s1,F0.mono s1,fun st2 a2 e2 a2' e2' H2 g3 g4 pf2 s2 => ?_⟩
    refine ⟨_,rfl,st2,st,a2,e2,a2',e2',a,e,a',e',rfl,pf2,pf.mono s2,fun r1 m n m' n' i j H3 k1 k2 k3 g5 s3 => ?_⟩
    refine ⟨_,rfl,_,rfl,st,st,a,e,a',e',a,e,a',e',rfl,(pf.mono s2).mono s3,(pf.mono s2).mono s3,fun r2 m2 n2 m2' n2' i2 j2 H4 l1 l2 l3 g6 s4 => ?_⟩
    have hi := near_pos hb1 hb2 f3 f4 f5 f6 g1 g2 l1 l2 l3 hS
    have hj := k3.low.pos
    refine ⟨r1,r2,i,j,i2,j2,2103,rfl,g5.mono s4,g6,by decide,Int.mul_ne_zero (by omega) (by omega),fun rp t w' H5 fin g7 s5 => ?_⟩
    have eN := near_eq (by omega) (by omega) (by omega) f1 f2 f3 f4 f5 f6 g1 g2 g3 g4 k1 k2 k3 l1 l2 l3 (by omega) fin (by omega)
    have hw := fin.low.pos
    obtain ⟨c1',c2'⟩ := np_lt (by omega) hN eN
    have S5 := s1.trans (s2.trans (s3.trans (s4.trans s5)))
    have bt := g7.ba
    have bw := g7.bb
    refine ⟨_,rfl,sz (by simp),fun zp H6 s6 f6' _ => ?_⟩
    refine ⟨rp,zp,t,w',0,1,rfl,(g7.mono s6).at_,f6',⟨bits_le bt (by decide),bits_le bw (by decide),by decide,by decide⟩,_,rfl,ite3 (fun h2 => ?_) (fun h2 => ?_)⟩
    · have h2 : t * 1 < 0 * w' := dec_t h2
      exact ⟨sz (by simp),fun r H7 s7 f7 _ => k r 0 1 H7 (Z f7) (.inr ⟨hN,.inl ⟨c1'.mp (by omega),rfl,rfl⟩⟩) (S5.trans (s6.trans s7))⟩
    have h2 : ¬ t * 1 < 0 * w' := dec_f h2
    refine ⟨sz (by simp),fun op H7 s7 f7 _ => ?_⟩
    have G7 := (g7.mono s6).mono s7
    refine ⟨_,rfl,op,rp,1,1,t,w',rfl,f7,G7.at_,⟨by decide,by decide,bits_le bt (by decide),bits_le bw (by decide)⟩,_,rfl,ite3 (fun h3 => ?_) (fun h3 => ?_)⟩
    · have h3 : 1 * w' < t * 1 := dec_t h3
      exact ⟨sz (by simp),fun r H8 s8 f8 _ => k r 1 1 H8 (O f8) (.inr ⟨hN,.inr (.inl ⟨c2'.mp (by omega),rfl,rfl⟩)⟩) (S5.trans (s6.trans (s7.trans s8)))⟩
    have h3 : ¬ 1 * w' < t * 1 := dec_f h3
    exact ⟨_,rfl,k rp t w' H7 G7 (.inr ⟨hN,.inr (.inr ⟨by omega,by omega,by omega,eN⟩)⟩) (S5.trans (s6.trans s7))⟩
theorem S_least_along : FnScope ["one","x","other","low","high","point","part","place"] ["one","x","other","low","high"] (defScope (top 35)) := ⟨rfl,rfl,rfl,by decide +kernel,rfl,by decide +kernel,by decide +kernel⟩
theorem fn_least_along {C : Addr} (D_least_along : Df K mg "least_along" (top 35)) (F_point_at : Fx P w K mg base "point_at" ["line","place"] 5 [] (spPoint C)) (F_nearest_part : Fn P w K mg base "nearest_part" ["point","begin","end"] 5 spNear) (F_plus : Fn P w K mg base "plus" ["a","b"] 3 (spBin (fun a b c d => a * d + c * b) (fun a b c d => b * d))) (F_times : Fn P w K mg base "times" ["a","b"] 3 (spBin (fun a b c d => a * c) (fun a b c d => b * d))) (F_minus : Fn P w K mg base "minus" ["a","b"] 3 (spBin (fun a b c d => a * d - c * b) (fun a b c d => b * d))) (F_square_between : Fn P w K mg base "square_between" ["begin","end"] 5 spSqB) : Fx P w K mg base "least_along" ["one","x","other","low","high"] 6 [] (spLeast C) := by
  refine D_least_along.fx S_least_along (fun _ _ _ _ _ _ us hl => by obtain ⟨_,_,_,_,_,rfl⟩ := len5 hl; rfl) (fun vs H Q E h => ?_) (fun f cdv A outer s H vs Q E hr h => ?_)
  · obtain ⟨l,l',qs,qs',x,y,z,rfl,_⟩ := h
    rfl
  · obtain ⟨l,l',qs,qs',x,y,z,rfl,L,L',h1,h1',tx,ty,tz,h⟩ := h
    refine ⟨_,(pss_cons (ps_set (i := 5) S_least_along.nd rfl (Or.inl rfl) (pe_fx F_point_at (hr.mono (by decide)) (by rfl) (pa_cons (pv 0) (pa_cons (pv 1) pa_nil)))) (pss_cons (ps_set (i := 6) S_least_along.nd rfl (Or.inl rfl) (pe_fn F_nearest_part (hr.mono (by decide)) (by rfl) (pa_cons (pv 5) (pa_cons (pe_fx F_point_at (hr.mono (by decide)) (by rfl) (pa_cons (pv 2) (pa_cons (pv 3) pa_nil))) (pa_cons (pe_fx F_point_at (hr.mono (by decide)) (by rfl) (pa_cons (pv 2) (pa_cons (pv 4) pa_nil))) pa_nil))))) (pss_cons (ps_set (i := 7) S_least_along.nd rfl (Or.inl rfl) (pe_fn F_plus (hr.mono (by decide)) (by rfl) (pa_cons (pv 3) (pa_cons (pe_fn F_times (hr.mono (by decide)) (by rfl) (pa_cons (pv 6) (pa_cons (pe_fn F_minus (hr.mono (by decide)) (by rfl) (pa_cons (pv 4) (pa_cons (pv 3) pa_nil))) pa_nil))) pa_nil)))) (pss_one (ps_ret (pe_tupA (pa_cons (pe_fn F_square_between (hr.mono (by decide)) (by rfl) (pa_cons (pv 5) (pa_cons (pe_fx F_point_at (hr.mono (by decide)) (by rfl) (pa_cons (pv 2) (pa_cons (pv 7) pa_nil))) pa_nil))) (pa_cons (pv 7) pa_nil)))))))),?_⟩
    rcases h with h | ⟨p,t,b,rfl,pl,h⟩
    · exact ⟨_,rfl,_,rfl,_,_,_,rfl,L,h1.1,h1.2,tx,fun _ => h.2,fun _ _ _ e0 eH lw t0 t1 => pt_n h.1 e0 eH lw t0 t1⟩
    refine ⟨_,rfl,_,rfl,_,_,_,rfl,L,h1.1,h1.2,Plc.th pl,pt_f pl,pt_t pl fun r H1 pt s1 => ?_⟩
    obtain ⟨ky,ny⟩ := ty.kn
    obtain ⟨kz,nz⟩ := tz.kn
    rcases h with h | ⟨q,l1,l2,rfl,pq,h⟩
    · exact ⟨_,rfl,_,rfl,_,rfl,_,_,_,rfl,(L'.mono s1),h1'.1,h1'.2,(Thing.mono ty s1),fun _ => (h.2 H1 s1),fun _ _ _ e0 eH lw t0 t1 => pt_n (by rw [placeV_same ny s1]; exact h.1) e0 eH lw t0 t1⟩
    refine ⟨_,rfl,_,rfl,_,rfl,_,_,_,rfl,(L'.mono s1),h1'.1,h1'.2,Plc.th (pq.mono s1),pt_f (pq.mono s1),pt_t (pq.mono s1) fun r1 H2 pt1 s2 => ?_⟩
    have S2 := s1.trans s2
    rcases h with h | ⟨q',hi1,hi2,rfl,pq',bb,b2,b4,ins,k⟩
    · exact ⟨_,rfl,_,rfl,_,_,_,rfl,(L'.mono S2),h1'.1,h1'.2,(Thing.mono tz S2),fun _ => (h.2 H2 S2),fun _ _ _ e0 eH lw t0 t1 => pt_n (by rw [placeV_same nz S2]; exact h.1) e0 eH lw t0 t1⟩
    have hb : (0 : Int) < b := pl.low.pos
    have hl : (0 : Int) < l2 := pq.low.pos
    have hh : (0 : Int) < hi2 := pq'.low.pos
    refine ⟨_,rfl,_,rfl,_,_,_,rfl,(L'.mono S2),h1'.1,h1'.2,Plc.th (pq'.mono S2),pt_f (pq'.mono S2),pt_t (pq'.mono S2) fun r2 H3 pt2 s3 => ?_⟩
    refine ⟨r,r1,r2,_,_,_,_,_,_,_,_,_,rfl,(pt.mono s2).mono s3,pt1.mono s3,pt2,hb,hl,hh,fun rp ps pw H4 gp np s4 => ?_⟩
    have S4 := S2.trans (s3.trans s4)
    have G1 : Fr2 H4 q l1 l2 200 := ⟨(pq.mono S4).at_,pq.low,pq.bt,pq.bb⟩
    have G2 : Fr2 H4 q' hi1 hi2 200 := ⟨(pq'.mono S4).at_,pq'.low,pq'.bt,pq'.bb⟩
    have hpb : bits ps ≤ 900 ∧ bits pw ≤ 900 := by
      have z1 : bits 0 ≤ 900 ∧ bits 1 ≤ 900 := ⟨by decide,by decide⟩
      rcases np with ⟨_,rfl,rfl⟩ | ⟨hN,⟨_,rfl,rfl⟩ | ⟨_,rfl,rfl⟩ | ⟨_,_,_,e⟩⟩
      · exact z1
      · exact z1
      · exact ⟨z1.2,z1.2⟩
      · rcases ins with ⟨rfl,rfl⟩ | ⟨kk,st⟩
        · unfold nN at hN
          simp at hN
        · exact part_bits (L'.mono S4) hb hl hh bb b2 b4 st (pt_bits L hb pl.bb) gp.low hN e
    have gpb : Fr2 H4 rp ps pw 900 := ⟨gp.at_,gp.low,hpb.1,hpb.2⟩
    refine ⟨_,rfl,_,rfl,_,rfl,_,rfl,q',q,hi1,hi2,l1,l2,200,rfl,G2,G1,by decide,Int.mul_ne_zero (by omega) (by omega),fun rm a e H5 fm gm s5 => ?_⟩
    refine ⟨rp,rm,ps,pw,a,e,900,rfl,gpb.mono s5,gm.wide (by decide),by decide,Int.mul_ne_zero (nzl gp.low) (nzl gm.low),fun rt m n H6 ft gt s6 => ?_⟩
    refine ⟨q,rt,l1,l2,m,n,1801,rfl,((G1.mono s5).mono s6).wide (by decide),gt,by decide,Int.mul_ne_zero (by omega) (nzl gt.low),fun rpl T B H7 fT gT s7 => ?_⟩
    obtain ⟨lp,r0,r1'⟩ := least_ok hb pq.low pq'.low ins np fm ft fT
    have S7 := S4.trans (s5.trans (s6.trans s7))
    have hB : (0 : Int) < B := fT.low.pos
    have t0 : 0 ≤ T := by
      have z := Int.mul_nonneg pq.lo (show 0 ≤ B by omega)
      by_cases c : 0 ≤ T
      · exact c
      · have := Int.mul_neg_of_neg_of_pos (show T < 0 by omega) hl
        omega
    have t1 : T ≤ lst_ qs' * B := by
      have z := Int.mul_le_mul_of_nonneg_right pq'.hi (show 0 ≤ B by omega)
      have : T * hi2 ≤ lst_ qs' * B * hi2 := by rw [Int.mul_right_comm]; omega
      exact Int.le_of_mul_le_mul_right this hh
    obtain ⟨bT,bB⟩ := lp_bits L' h1'.2 hb bb fT.low lp b2 b4 t0 t1
    have PL : Plc H7 rpl T B (lst_ qs') := ⟨gT.at_,fT.low,t0,t1,bT,bits_le bB (by decide)⟩
    refine ⟨_,rfl,_,rfl,_,rfl,_,_,_,rfl,(L'.mono S7),h1'.1,h1'.2,Plc.th PL,pt_f PL,pt_t PL fun r3 H8 pt3 s8 => ?_⟩
    refine ⟨r,r3,_,_,_,_,_,_,rfl,(pt.mono (s2.trans (s3.trans (s4.trans (s5.trans (s6.trans s7)))))).mono s8,pt3,hb,hB,fun rs sn sw H9 fs gs s9 => ?_⟩
    refine ⟨_,rfl,sz (by simp),fun rr H10 s10 f10 _ => ?_⟩
    exact k rr rs rpl sn sw T B H10 f10 (gs.mono s10) (PL.mono (s8.trans (s9.trans s10))) lp r0 r1' fs (S7.trans (s8.trans (s9.trans s10)))
theorem S_law_cell_at : FnScope ["script","k"] ["script","k"] (defScope (top 70)) := ⟨rfl,rfl,rfl,by decide +kernel,rfl,by decide +kernel,by decide +kernel⟩
theorem fn_law_cell_at (D_law_cell_at : Df K mg "_law_cell_at" (top 70)) (T : Txt mg) : Fn P w K mg base "_law_cell_at" ["script","k"] 1 (Dr.spCell K) := by
  refine D_law_cell_at.fn S_law_cell_at (fun _ _ _ _ _ _ us hl => by obtain ⟨_,_,rfl⟩ := len2 hl; rfl) (fun vs H Q E h => ?_) (fun f cdv A outer s H vs Q E hr h => ?_)
  · obtain ⟨sa,ss,k,rfl,_⟩ := h
    rfl
  · obtain ⟨sa,ss,k,rfl,hS,hk,q⟩ := h
    refine ⟨_,(pss_cons (ps_if (pt_cmpR op_lt (pv 1) (pe_callB call_len_seq (by rfl) T.z_len bt_len (pa_cons (pv 0) pa_nil)) (nomark _)) (pss_one (ps_ret (pe_ix ix_list (pv 0) (pv 1) (fun _ _ => rfl)))) pss_nil) (pss_one (ps_ret pe_int))),?_⟩
    refine ⟨_,rfl,_,rfl,sa,_,rfl,.inl hS,_,_,rfl,rfl,_,rfl,ite3 (fun h1 => ?_) (fun h1 => ?_)⟩
    · have h1 : k < (((ss.map V.int).length : Nat) : Int) := dec_t h1
      rw [List.length_map] at h1
      exact ⟨_,rfl,_,rfl,sa,_,_,_,rfl,rfl,hS,at_int k.toNat (by omega) (by omega),q _⟩
    · exact q _
theorem S_law_begun : FnScope ["cell","rest"] ["cell"] (defScope (top 72)) := ⟨rfl,rfl,rfl,by decide +kernel,rfl,by decide +kernel,by decide +kernel⟩
theorem fn_law_begun (D_law_begun : Df K mg "_law_begun" (top 72)) (T : Txt mg) : Fn P w K mg base "_law_begun" ["cell"] 1 Dr.spBegun := by
  refine D_law_begun.fn S_law_begun (fun _ _ _ _ _ _ us hl => by obtain ⟨_,rfl⟩ := len1 hl; rfl) (fun vs H Q E h => ?_) (fun f cdv A outer s H vs Q E hr h => ?_)
  · obtain ⟨c,rfl,_⟩ := h
    rfl
  · obtain ⟨c,rfl,q⟩ := h
    refine ⟨_,(pss_cons (ps_set (i := 1) S_law_begun.nd rfl (Or.inl rfl) pe_int) (pss_cons (ps_if (pt_cmpR op_ge (pe_callB call_abs (by rfl) T.z_abs bt_abs (pa_cons (pv 0) pa_nil)) (pe_op op_pow pe_int pe_int) (nomark _)) (pss_one (ps_set (i := 1) S_law_begun.nd rfl (Or.inl rfl) (pe_op op_add (pe_op op_sub (pe_callB call_abs (by rfl) T.z_abs bt_abs (pa_cons (pv 0) pa_nil)) (pe_op op_pow pe_int pe_int)) pe_int))) pss_nil) (pss_one (ps_ret (pe_lstA (pa_cons (pv 1) (pa_cons pe_int (pa_cons (pe_op op_mod (pv 0) pe_int) pa_nil)))))))),?_⟩
    refine ⟨_,rfl,_,rfl,_,_,rfl,rfl,⟨by decide,by decide,by decide⟩,_,_,rfl,rfl,_,rfl,ite3 (fun h1 => ?_) (fun h1 => ?_)⟩
    · refine ⟨_,rfl,_,rfl,_,_,rfl,rfl,⟨by decide,by decide,by decide⟩,_,_,rfl,rfl,_,_,rfl,rfl,?_⟩
      refine ⟨_,rfl,_,rfl,_,_,rfl,rfl,(by show (0 : Int) < 2147483647; decide),sz (by simp),fun p H2 s2 f2 n2 => ?_⟩
      exact q p H2 s2 n2 ⟨_,_,_,f2,Int.le_refl 0,Int.le_refl 0,Int.emod_nonneg _ (by decide),Int.emod_lt_of_pos _ (by decide)⟩
    · refine ⟨_,rfl,_,rfl,_,_,rfl,rfl,(by show (0 : Int) < 2147483647; decide),sz (by simp),fun p H2 s2 f2 n2 => ?_⟩
      exact q p H2 s2 n2 ⟨_,_,_,f2,Int.le_refl 0,Int.le_refl 0,Int.emod_nonneg _ (by decide),Int.emod_lt_of_pos _ (by decide)⟩
theorem S_law_take : FnScope ["pot","size","digit","mixed"] ["pot","size"] (defScope (top 73)) := ⟨rfl,rfl,rfl,by decide +kernel,rfl,by decide +kernel,by decide +kernel⟩
theorem fn_law_take (D_law_take : Df K mg "_law_take" (top 73)) : Fn P w K mg base "_law_take" ["pot","size"] 1 Dr.spTk := by
  refine D_law_take.fn S_law_take (fun _ _ _ _ _ _ us hl => by obtain ⟨_,_,rfl⟩ := len2 hl; rfl) (fun vs H Q E h => ?_) (fun f cdv A outer s H vs Q E hr h => ?_)
  · obtain ⟨p,m,k,rfl,_⟩ := h
    rfl
  · obtain ⟨p,m,k,rfl,⟨a,b,c,e,hb0,hb1,hc0,hc1⟩,hk,⟨hm,bm⟩,q⟩ := h
    refine ⟨_,(pss_cons (ps_if (pt_cmpR op_gt (pe_ix ix_list (pv 0) pe_int (fun _ _ => rfl)) pe_int (nomark _)) (pss_cons (ps_set (i := 2) S_law_take.nd rfl (Or.inl rfl) (pe_op op_mod (pe_ix ix_list (pv 0) pe_int (fun _ _ => rfl)) (pv 1))) (pss_cons (ps_asg (pe_op op_fdivP (pe_ix ix_list (pv 0) pe_int (fun _ _ => rfl)) (pv 1)) (pg_sub (pv 0) pe_int set_listA)) (pss_one (ps_ret (pv 2))))) pss_nil) (pss_cons (ps_asg (pe_op op_add (pe_ix ix_list (pv 0) pe_int (fun _ _ => rfl)) pe_int) (pg_sub (pv 0) pe_int set_listA)) (pss_cons (ps_set (i := 3) S_law_take.nd rfl (Or.inl rfl) (pe_op op_mod (pe_op op_add (pe_op op_add (pe_op op_add (pe_ix ix_list (pv 0) pe_int (fun _ _ => rfl)) (pe_op op_mulX (pe_op op_mulX pe_int (pe_ix ix_list (pv 0) pe_int (fun _ _ => rfl))) (pe_ix ix_list (pv 0) pe_int (fun _ _ => rfl)))) (pe_op op_mulX pe_int (pe_ix ix_list (pv 0) pe_int (fun _ _ => rfl)))) pe_int) pe_int)) (pss_cons (ps_set (i := 3) S_law_take.nd rfl (Or.inl rfl) (pe_op op_mod (pe_op op_mulX (pe_op op_mod (pe_op op_mulX (pv 3) (pv 3)) pe_int) pe_int) pe_int)) (pss_one (ps_ret (pe_op op_mod (pe_op op_fdivP (pv 3) pe_int) (pv 1)))))))),?_⟩
    refine ⟨_,rfl,p,_,_,_,rfl,rfl,SqL.of e,rfl,_,_,rfl,rfl,_,rfl,ite3 (fun h1 => ?_) (fun h1 => ?_)⟩
    · refine ⟨_,rfl,p,_,_,_,rfl,rfl,SqL.of e,rfl,_,rfl,_,_,rfl,rfl,hm,?_⟩
      refine ⟨_,rfl,p,_,_,_,rfl,rfl,SqL.of e,rfl,_,rfl,_,_,rfl,rfl,⟨hm,bm⟩,_,rfl,p,_,_,0,rfl,rfl,e,rfl,fun H2 u => ?_⟩
      exact ⟨_,rfl,q _ _ (Int.emod_nonneg _ (by omega)) (Int.emod_lt_of_pos _ hm) (fun b o nb e => u.at nb e) ⟨_,_,_,u.now,hb0,by omega,hc0,hc1⟩⟩
    · have e64 : (2 : Int) ^ 64 = 18446744073709551616 := by decide
      refine ⟨_,rfl,p,_,_,_,rfl,rfl,SqL.of e,rfl,_,_,rfl,rfl,_,rfl,p,_,_,1,rfl,rfl,e,rfl,fun H2 u => ?_⟩
      have e2 : H2 p = some (.lst [.int a,.int (b + 1),.int c]) := u.now
      refine ⟨_,rfl,p,_,_,_,rfl,rfl,SqL.of e2,rfl,_,rfl,p,_,_,_,rfl,rfl,SqL.of e2,rfl,_,_,rfl,rfl,CM.l ⟨by decide,by decide⟩,_,rfl,p,_,_,_,rfl,rfl,SqL.of e2,rfl,_,_,rfl,rfl,CM.l (by rw [e64]; omega),_,_,rfl,rfl,_,rfl,p,_,_,_,rfl,rfl,SqL.of e2,rfl,_,_,rfl,rfl,CM.l ⟨by decide,by decide⟩,_,_,rfl,rfl,_,_,rfl,rfl,_,_,rfl,rfl,(by show (0 : Int) < 2147483647; decide),?_⟩
      have r0 := Int.emod_nonneg (c + 977 * (b + 1) * (b + 1) + 40693 * (b + 1) + 1) (show (2147483647 : Int) ≠ 0 by decide)
      have r1 := Int.emod_lt_of_pos (c + 977 * (b + 1) * (b + 1) + 40693 * (b + 1) + 1) (show (0 : Int) < 2147483647 by decide)
      refine ⟨_,rfl,_,rfl,_,_,rfl,rfl,CM.l (by rw [e64]; omega),_,_,rfl,rfl,(by show (0 : Int) < 1000000007; decide),_,_,rfl,rfl,CM.r ⟨by decide,by decide⟩,_,_,rfl,rfl,(by show (0 : Int) < 998244353; decide),?_⟩
      refine ⟨_,rfl,_,_,rfl,rfl,⟨by decide,by decide⟩,_,rfl,_,_,rfl,rfl,hm,?_⟩
      exact q _ _ (Int.emod_nonneg _ (by omega)) (Int.emod_lt_of_pos _ hm) (fun b o nb e => u.at nb e) ⟨_,_,_,u.now,by omega,by omega,hc0,hc1⟩
theorem S_law_wide : FnScope ["pot","size","number","turn"] ["pot","size"] (defScope (top 74)) := ⟨rfl,rfl,rfl,by decide +kernel,rfl,by decide +kernel,by decide +kernel⟩
theorem fn_law_wide (D_law_wide : Df K mg "_law_wide" (top 74)) (F_law_take : Fn P w K mg base "_law_take" ["pot","size"] 1 Dr.spTk) (T : Txt mg) : Fn P w K mg base "_law_wide" ["pot","size"] 2 Dr.spWd := by
  refine D_law_wide.fn S_law_wide (fun _ _ _ _ _ _ us hl => by obtain ⟨_,_,rfl⟩ := len2 hl; rfl) (fun vs H Q E h => ?_) (fun f cdv A outer s H vs Q E hr h => ?_)
  · obtain ⟨p,m,k,rfl,_⟩ := h
    rfl
  · obtain ⟨p,m,k,rfl,pt,hk,⟨hm,bm⟩,q⟩ := h
    refine ⟨_,(pss_cons (ps_if (pw_or (pt_cmpR op_gt (pe_ix ix_list (pv 0) pe_int (fun _ _ => rfl)) pe_int (nomark _)) (pw_or1 (pt_cmpR op_lt (pv 1) (pe_op op_pow pe_int pe_int) (nomark _)))).pt (pss_one (ps_ret (pe_fn F_law_take (hr.mono (by decide)) (by rfl) (pa_cons (pv 0) (pa_cons (pv 1) pa_nil))))) pss_nil) (pss_cons (ps_set (i := 2) S_law_wide.nd rfl (Or.inl rfl) pe_int) (pss_cons (ps_for PassesOwn.never rfl (pi_range1 rfl T.z_range (pa_cons pe_int pa_nil)) (pg_name (i := 3) S_law_wide.nd rfl (Or.inl rfl)) (pss_one (ps_set (i := 2) S_law_wide.nd rfl (Or.inl rfl) (pe_op op_add (pe_op op_mulX (pv 2) pe_int) (pe_fn F_law_take (hr.mono (by decide)) (by rfl) (pa_cons (pv 0) (pa_cons pe_int pa_nil))))))) (pss_one (ps_ret (pe_op op_mod (pv 2) (pv 1))))))),?_⟩
    obtain ⟨a,b,c,e,rest⟩ := id pt
    have tk : ∀ H1,H1 = H → spTk [.ref p,.int m] H1 Q E0 := fun H1 e1 => by
      subst e1
      exact ⟨p,m,k,rfl,pt,by omega,⟨hm,bm⟩,fun r H2 h0 h1 b2 p2 => q r H2 h0 h1 b2 (p2.mono (by omega))⟩
    refine ⟨_,rfl,p,_,_,_,rfl,rfl,SqL.of e,rfl,_,_,rfl,rfl,_,rfl,ite3 (fun h1 => ?_) (fun h1 => ?_)⟩
    · exact ⟨_,rfl,_,rfl,tk _ rfl⟩
    refine ⟨_,rfl,_,_,rfl,rfl,⟨by decide,by decide,by decide⟩,_,_,rfl,rfl,_,rfl,ite3 (fun h2 => ?_) (fun h2 => ?_)⟩
    · exact ⟨_,rfl,_,rfl,tk _ rfl⟩
    refine ⟨4,rfl,by decide,by decide,for_range (n := 4) (lo := 0) (fun i σ H2 => ∃ (n : Int) (z : Option V),σ = [some (.ref p),some (.int m),some (.int n),z] ∧ But p H H2 ∧ Pot H2 p (k + (i : Int))) ⟨_,_,rfl,But.refl,by simpa using pt⟩ ?_ ?_⟩
    · rintro i σ H2 hi ⟨n,z,rfl,b2,p2⟩
      refine ⟨_,rfl,_,_,rfl,rfl,CM.r ⟨by decide,by decide⟩,_,rfl,p,_,_,rfl,p2,by omega,⟨by decide,by decide⟩,fun r H3 h0 h1 b3 p3 => ⟨_,_,rfl,rfl,_,_,rfl,b2.trans b3,p3.mono (by omega)⟩⟩
    · rintro σ H2 ⟨n,z,rfl,b2,p2⟩
      exact ⟨_,rfl,_,rfl,_,_,rfl,rfl,hm,q _ _ (Int.emod_nonneg _ (by omega)) (Int.emod_lt_of_pos _ hm) b2 p2⟩
theorem S_law_drawn_line : FnScope ["pot","many","span","half","line","k","at"] ["pot"] (defScope (top 75)) := ⟨rfl,rfl,rfl,by decide +kernel,rfl,by decide +kernel,by decide +kernel⟩
theorem fn_law_drawn_line (D_law_drawn_line : Df K mg "_law_drawn_line" (top 75)) (F_law_take : Fn P w K mg base "_law_take" ["pot","size"] 1 Dr.spTk) (F_law_wide : Fn P w K mg base "_law_wide" ["pot","size"] 2 Dr.spWd) (T : Txt mg) : Fn P w K mg base "_law_drawn_line" ["pot"] 3 Dr.spDLine := by
  refine D_law_drawn_line.fn S_law_drawn_line (fun _ _ _ _ _ _ us hl => by obtain ⟨_,rfl⟩ := len1 hl; rfl) (fun vs H Q E h => ?_) (fun f cdv A outer s H vs Q E hr h => ?_)
  · obtain ⟨p,k,rfl,_⟩ := h
    rfl
  · obtain ⟨p,k,rfl,pt,hk,q⟩ := h
    have CN : CompN (cxOf CX0 P w K mg base ["pot","many","span","half","line","k","at"] "_law_drawn_line" (defScope (top 75)) f cdv A outer s H E).nox (setScope (ifBody ((defBody (top 75)).getD 5 (.Pass ⟨0,0,0,0⟩)))) [] "corner" [] :=
      ⟨by rfl,rfl,by decide +kernel,by decide +kernel,rfl,(fun p hp => nomatch hp),by rfl,by decide +kernel,(fun p hp => nomatch hp),⟨rfl,rfl⟩,rfl⟩
    have R : ∃ u,PSs (cxOf CX0 P w K mg base ["pot","many","span","half","line","k","at"] "_law_drawn_line" (defScope (top 75)) f cdv A outer s H E).nox ((defBody (top 75)).drop 6) u ∧ ∀ (l : Addr) (qs : Crn) (H1 : Hp) (S F : Int) (z5 z6 : Option V),LineM H1 l qs → 1 ≤ qs.length → qs.length ≤ 10 → H l = none → l ≠ p → But p H H1 → Pot H1 p (k + 90) →
        u { nx := fun _ H' => Q .non H',rt := Q } [some (.ref p),some (.int (qs.length : Int)),some (.int S),some (.int F),some (.ref l),z5,z6] H1 := by
      refine ⟨_,(pss_cons (ps_if (pw_and (pt_cmpR op_gt (pv 1) pe_int (nomark _)) (pw_and1 (pt_cmpR op_eq (pe_fn F_law_take (hr.mono (by decide)) (by rfl) (pa_cons (pv 0) (pa_cons pe_int pa_nil))) pe_int (nomark _)))).pt (pss_cons (ps_set (i := 6) S_law_drawn_line.nd rfl (Or.inl rfl) (pe_op op_add pe_int (pe_fn F_law_take (hr.mono (by decide)) (by rfl) (pa_cons (pv 0) (pa_cons (pe_op op_sub (pv 1) pe_int) pa_nil))))) (pss_one (ps_asg (pe_ix ix_list (pv 4) (pe_op op_sub (pv 6) pe_int) (fun _ _ => rfl)) (pg_sub (pv 4) (pv 6) set_listA)))) pss_nil) (pss_one (ps_ret (pv 4)))),fun l qs H1 S F z5 z6 L1 h1 h10 nl np b1 p1 => ?_⟩
      have hll : (qs.map fun (q : Addr × Int × Int) => V.ref q.1).length = qs.length := List.length_map _
      have fin : ∀ {z5 z6 : Option V} {H2 : Hp},LineM H2 l qs → But p H H2 → Pot H2 p (k + 95) → (tRet (tVar 4)) { nx := fun _ H' => Q .non H',rt := Q } [some (.ref p),some (.int (qs.length : Int)),some (.int S),some (.int F),some (.ref l),z5,z6] H2 := fun L2 b2 p2 => ⟨_,rfl,q l qs _ L2 h1 h10 nl b2 (p2.mono (by omega))⟩
      refine ⟨_,rfl,_,_,rfl,rfl,_,rfl,ite3 (fun g1 => ?_) (fun g1 => ?_)⟩
      · have g1 : 1 < (qs.length : Int) := dec_t g1
        refine ⟨_,rfl,p,_,_,rfl,p1,by omega,⟨by decide,by decide⟩,fun r2 H2 _ _ b2 p2 => ?_⟩
        have L2' := L1.but b2 p1 np
        refine ⟨rfl,_,rfl,ite3 (fun g2 => ?_) (fun g2 => ?_)⟩
        · refine ⟨_,rfl,_,rfl,_,_,rfl,rfl,p,_,_,rfl,p2,by omega,⟨by omega,bits_le (bits_small (by omega) (by omega)) (by decide)⟩,fun r3 H3 a3 b3' b3 p3 => ⟨_,_,rfl,rfl,?_⟩⟩
          have L3 := L2'.but b3 p2 np
          obtain ⟨qa,hqa,eqa⟩ := at_crn (qs := qs) (k := 1 + r3 - 1) (by omega) (by omega)
          refine ⟨_,rfl,_,rfl,_,_,rfl,rfl,l,_,_,_,rfl,rfl,SqL.of L3.lst,eqa,_,rfl,_,rfl,l,_,_,_,rfl,rfl,L3.lst,ixN_of (by omega) (by rw [hll]; omega),fun H4 u => ?_⟩
          have e4 : (qs.map fun (q : Addr × Int × Int) => V.ref q.1).set (1 + r3).toNat (.ref qa.1) = (qs.set (1 + r3).toNat qa).map fun (q : Addr × Int × Int) => V.ref q.1 := by rw [List.map_set]
          have L4 : LineM H4 l (qs.set (1 + r3).toNat qa) := by
            refine ⟨by rw [← e4]; exact u.now,fun q hq => ?_⟩
            rcases List.mem_or_eq_of_mem_set hq with hq | rfl
            · exact ⟨u.t _ _ (L3.crn q hq).1,(L3.crn q hq).2⟩
            · have m := List.mem_of_getElem? hqa
              exact ⟨u.t _ _ (L3.crn _ m).1,(L3.crn _ m).2⟩
          have b4 : But p H H4 := fun b o nb e => u.at (fun z => by subst z; rw [nl] at e; cases e) (b3 b o nb (b2 b o nb (b1 b o nb e)))
          obtain ⟨x,y,z,ep,rest⟩ := p3
          have p4 : Pot H4 p (k + 90 + 1 + 1) := ⟨x,y,z,u.at (Ne.symm np) ep,rest⟩
          exact ⟨_,rfl,q l _ _ L4 (by rw [List.length_set]; exact h1) (by rw [List.length_set]; exact h10) nl b4 (p4.mono (by omega))⟩
        · exact fin L2' (b1.trans b2) (p2.mono (by omega))
      · exact fin L1 b1 (p1.mono (by omega))
    obtain ⟨u,hu,ru⟩ := R
    refine ⟨_,(pss_cons (ps_set (i := 1) S_law_drawn_line.nd rfl (Or.inl rfl) (pe_op op_add pe_int (pe_fn F_law_take (hr.mono (by decide)) (by rfl) (pa_cons (pv 0) (pa_cons (pe_ix ix_list (pe_lstA (pa_cons pe_int (pa_cons pe_int (pa_cons pe_int (pa_cons pe_int (pa_cons pe_int (pa_cons pe_int (pa_cons pe_int (pa_cons pe_int pa_nil))))))))) (pe_fn F_law_take (hr.mono (by decide)) (by rfl) (pa_cons (pv 0) (pa_cons pe_int pa_nil))) (fun _ _ => rfl)) pa_nil))))) (pss_cons (ps_set (i := 2) S_law_drawn_line.nd rfl (Or.inl rfl) (pe_ix ix_list (pe_lstA (pa_cons pe_int (pa_cons pe_int (pa_cons pe_int (pa_cons (pe_op op_sub (pe_op op_mulX pe_int (pe_op op_pow pe_int pe_int)) pe_int) pa_nil))))) (pe_fn F_law_take (hr.mono (by decide)) (by rfl) (pa_cons (pv 0) (pa_cons pe_int pa_nil))) (fun _ _ => rfl))) (pss_cons (ps_set (i := 3) S_law_drawn_line.nd rfl (Or.inl rfl) (pe_op op_fdivP (pv 2) pe_int)) (pss_cons (ps_set (i := 4) S_law_drawn_line.nd rfl (Or.inl rfl) (pe_lstA pa_nil)) (pss_cons (ps_for PassesOwn.never rfl (pi_range1 rfl T.z_range (pa_cons (pv 1) pa_nil)) (pg_name (i := 5) S_law_drawn_line.nd rfl (Or.inl rfl)) (pss_one (ps_expr (pe_bm PySem.F.plainAttrs_list PySem.F.slot_list_append PySem.F.type_list_append mt_appendA (pv 4) (pa_cons (pe_tupA (pa_cons (pe_op op_sub (pe_fn F_law_wide (hr.mono (by decide)) (by rfl) (pa_cons (pv 0) (pa_cons (pv 2) pa_nil))) (pv 3)) (pa_cons (pe_op op_sub (pe_fn F_law_wide (hr.mono (by decide)) (by rfl) (pa_cons (pv 0) (pa_cons (pv 2) pa_nil))) (pv 3)) pa_nil))) pa_nil))))) (pss_cons (ps_if (pt_cmpR op_eq (pe_fn F_law_take (hr.mono (by decide)) (by rfl) (pa_cons (pv 0) (pa_cons pe_int pa_nil))) pe_int (nomark _)) (pss_one (ps_setCompA (j := 4) rfl CN S_law_drawn_line.nd rfl rfl (pi_list (pv 4)) (fun fp s₀ H₀ => (pe_tupA (pa_cons (pe_ix (ix_tupK (K := K) rfl) (pv 0) pe_int (fun _ _ => rfl)) (pa_cons pe_int pa_nil)))))) pss_nil) hu)))))),?_⟩
    refine ⟨_,rfl,sz (by simp),fun pl H1 s1 f1 n1 => ?_⟩
    have np1 := Pot.ne pt n1
    have p1 := pt.same s1
    refine ⟨_,rfl,p,_,_,rfl,p1,by omega,⟨by decide,by decide⟩,fun r2 H2 a2 b2' b2 p2 => ?_⟩
    refine menuI (fun m => 2 ≤ m ∧ m ≤ 10) (b2 _ _ np1 f1) a2 (by simpa using b2') (fun v hv => ?_) fun m hm => ?_
    · simp only [List.mem_cons,List.not_mem_nil,or_false] at hv
      rcases hv with rfl | rfl | rfl | rfl | rfl | rfl | rfl | rfl <;> exact ⟨_,rfl,by decide,by decide⟩
    refine ⟨p,_,_,rfl,p2,by omega,⟨by omega,bits_le (bits_small (by omega) (by omega)) (by decide)⟩,fun r3 H3 a3 b3' b3 p3 => ⟨_,_,rfl,rfl,?_⟩⟩
    have B3 : But p H H3 := (But.of s1).trans (b2.trans b3)
    refine ⟨_,_,rfl,rfl,⟨by decide,by decide,by decide⟩,_,_,rfl,rfl,CM.l ⟨by decide,by decide⟩,_,_,rfl,rfl,sz (by simp),fun ps H4 s4 f4 n4 => ?_⟩
    have np4 := Pot.ne p3 n4
    have p4 := p3.same s4
    have e12 : (2 * (10 : Int) ^ (12 : Int).toNat - 1) = 1999999999999 := by decide +kernel
    refine ⟨_,rfl,p,_,_,rfl,p4,by omega,⟨by decide,by decide⟩,fun r5 H5 a5 b5' b5 p5 => ?_⟩
    refine menuI (fun m => 3 ≤ m ∧ m ≤ 1999999999999) (b5 _ _ np4 f4) a5 (by simpa using b5') (fun v hv => ?_) fun S hS => ?_
    · simp only [List.mem_cons,List.not_mem_nil,or_false] at hv
      rcases hv with rfl | rfl | rfl | rfl
      · exact ⟨_,rfl,by decide,by decide⟩
      · exact ⟨_,rfl,by decide,by decide⟩
      · exact ⟨_,rfl,by decide,by decide⟩
      · exact ⟨_,rfl,by rw [e12]; decide,by rw [e12]; decide⟩
    have B5 : But p H H5 := (B3.trans (But.of s4)).trans b5
    have bS : bits S ≤ 8000 := bits_le (m := 50) (bits_of (by show _ < 1125899906842624; omega)) (by decide)
    refine ⟨_,rfl,_,_,rfl,rfl,⟨by decide,by decide⟩,?_⟩
    refine ⟨sz (by simp),fun l H6 s6 f6 n6 => ?_⟩
    have npl := Pot.ne p5 n6
    have nl : H l = none := B5.none npl n6
    have p6 := p5.same s6
    refine ⟨_,rfl,_,rfl,by omega,by omega,?_⟩
    refine for_range (n := (1 + r3).toNat) (lo := 0) (fun i σ H7 => ∃ (z5 z6 : Option V) (qs : Crn),σ = [some (.ref p),some (.int (1 + r3)),some (.int S),some (.int (S / 2)),some (.ref l),z5,z6] ∧ qs.length = i ∧ LineM H7 l qs ∧ But p H H7 ∧ Pot H7 p (k + 3 + 8 * (i : Int)))
      ⟨_,_,[],rfl,rfl,⟨f6,fun q h => nomatch h⟩,B5.trans (But.of s6),p6.mono (by omega)⟩ ?_ ?_
    · rintro i σ H7 hi ⟨z5,z6,qs,rfl,hl,L7,b7,p7⟩
      have hi10 : i < 10 := by omega
      refine ⟨_,rfl,.inl ⟨rfl,_,SqL.of L7.lst⟩,?_⟩
      refine ⟨_,rfl,_,rfl,p,_,_,rfl,p7,by omega,⟨by omega,bS⟩,fun r8 H8 a8 b8' b8 p8 => ⟨_,rfl,_,_,rfl,rfl,?_⟩⟩
      refine ⟨_,rfl,_,rfl,p,_,_,rfl,p8,by omega,⟨by omega,bS⟩,fun r9 H9 a9 b9' b9 p9 => ⟨_,rfl,_,_,rfl,rfl,sz (by simp),fun pp H10 s10 f10 n10 => ?_⟩⟩
      have L10 := ((L7.but b8 p7 npl).but b9 p8 npl).mono s10
      refine ⟨l,_,_,rfl,rfl,L10.lst,small1000 (by rw [List.length_map]; omega),fun H11 u => ⟨_,_,qs ++ [(pp,r8 - S / 2,r9 - S / 2)],rfl,by simp [hl],⟨by rw [u.now]; simp,fun q hq => ?_⟩,fun b o nb e => ?_,?_⟩⟩
      · rcases List.mem_append.mp hq with hq | hq
        · exact ⟨u.t _ _ (L10.crn q hq).1,(L10.crn q hq).2⟩
        · rw [List.mem_singleton.mp hq]
          refine ⟨u.t _ _ f10,?_,?_⟩ <;> (show -999999999999 ≤ _ ∧ _ ≤ 999999999999; dsimp only; omega)
      · exact u.at (fun z => by subst z; rw [nl] at e; cases e) (s10 _ _ (b9 b o nb (b8 b o nb (b7 b o nb e))))
      · obtain ⟨x,y,z,ep,rest⟩ := (p9.same s10).mono (k' := k + 3 + 8 * ((i + 1 : Nat) : Int)) (by omega)
        exact ⟨x,y,z,u.at (Ne.symm npl) ep,rest⟩
    · rintro σ H7 ⟨z5,z6,qs,rfl,hl,L7,b7,p7⟩
      have hmany : (qs.length : Int) = 1 + r3 := by omega
      refine ⟨_,rfl,p,_,_,rfl,p7,by omega,⟨by decide,by decide⟩,fun r8 H8 _ _ b8 p8 => ?_⟩
      have L8 := L7.but b8 p7 npl
      rw [← hmany]
      refine ⟨rfl,_,rfl,ite3 (fun g1 => ?_) (fun g1 => ?_)⟩
      · refine ⟨_,rfl,l,rfl,⟨_,SqL.of L8.lst⟩,comp_R (SqL.of L8.lst) (by rw [List.length_map]; omega) (fun _ v H => ∃ p x,v = .ref p ∧ H p = some (.tup [.int x,.int 0]) ∧ Sm x) (fun i v H H' st ⟨p,x,e,c,s⟩ => ⟨p,x,e,st _ _ c,s⟩) ?_ ?_⟩
        · intro i x H9 Kc hx s9 kk
          rw [List.getElem?_map] at hx
          obtain ⟨q,hq,rfl⟩ := Option.map_eq_some_iff.mp hx
          have c := s9 _ _ (L8.crn q (List.mem_of_getElem? hq)).1
          refine ⟨_,rfl,q.1,_,_,_,rfl,rfl,SqT.of c,rfl,sz (by simp),fun pp H10 s10 f10 n10 => kk _ _ s10 ⟨pp,_,rfl,f10,(L8.crn q (List.mem_of_getElem? hq)).2.1⟩⟩
        · intro l2 ys H9 nl2 s9 f9 hly hr
          rw [List.length_map] at hly
          have np2 := Pot.ne p8 nl2
          have ex : ∃ rs : Crn,rs.length = qs.length ∧ LineM H9 l2 rs := by
            have hch : ∀ ys : List V,(∀ y ∈ ys,∃ (p : Addr) (x : Int),y = .ref p ∧ H9 p = some (.tup [.int x,.int 0]) ∧ Sm x) → ∃ rs : Crn,ys = rs.map (fun q => V.ref q.1) ∧ ∀ q ∈ rs,H9 q.1 = some (.tup [.int q.2.1,.int q.2.2]) ∧ Sm q.2.1 ∧ Sm q.2.2 := by
              intro ys
              induction ys with
              | nil => exact fun _ => ⟨[],rfl,fun q h => nomatch h⟩
              | cons y ys ih =>
                intro h
                obtain ⟨rs,e,hrs⟩ := ih fun z hz => h z (List.mem_cons_of_mem _ hz)
                obtain ⟨pp,x,rfl,c,sx⟩ := h y List.mem_cons_self
                refine ⟨(pp,x,0) :: rs,by rw [e]; rfl,fun q hq => ?_⟩
                rcases List.mem_cons.mp hq with rfl | hq
                · exact ⟨c,sx,by show -999999999999 ≤ (0 : Int) ∧ (0 : Int) ≤ 999999999999; decide⟩
                · exact hrs q hq
            obtain ⟨rs,e,hrs⟩ := hch ys fun y hy => by
              obtain ⟨i,hi⟩ := List.getElem?_of_mem hy
              exact hr i y hi
            refine ⟨rs,?_,⟨by rw [f9,e],hrs⟩⟩
            rw [e,List.length_map] at hly
            exact hly
          obtain ⟨rs,hrl,L9⟩ := ex
          have := ru l2 rs H9 S (S / 2) z5 z6 L9 (by omega) (by omega) ((b7.trans b8).none np2 nl2) np2 ((b7.trans b8).trans (But.of s9)) ((p8.same s9).mono (by omega))
          rw [hrl] at this
          exact this
      · exact ru l qs H8 S (S / 2) z5 z6 L8 (by omega) (by omega) nl npl (b7.trans b8) (p8.mono (by omega))
theorem S_look_at_way : FnScope ["way"] ["way"] (defScope (top 38)) := ⟨rfl,rfl,rfl,by decide +kernel,rfl,by decide +kernel,by decide +kernel⟩
theorem fn_look_at_way {C pW : Addr} (D_look_at_way : Df K mg "look_at_way" (top 38)) (O_NoWay : ExcC K mg "NoWay" C) (G_WAYS : mg "WAYS" = some (.ref pW)) (hW : ∀ H,SqT K H pW [.str wOn,.str wPart,.str wFree,.str wHops]) (T : Txt mg) : Fx P w K mg base "look_at_way" ["way"] 1 [] (spWayS C) := by
  refine D_look_at_way.fx S_look_at_way (fun _ _ _ _ _ _ us hl => by obtain ⟨_,rfl⟩ := len1 hl; rfl) (fun vs H Q E h => ?_) (fun f cdv A outer s H vs Q E hr h => ?_)
  · obtain ⟨x,t,rfl,_⟩ := h
    rfl
  · obtain ⟨x,t,rfl,kn,h⟩ := h
    refine ⟨_,(pss_one (ps_if (pw_or (pt_not (pt_val (pe_callB call_isinst (by rfl) T.z_isinstance bt_isinstance (pa_cons (pv 0) (pa_cons (pe_ty T.z_str bt_str) pa_nil))))) (pw_or1 (pt_cmpR op_notIn_seq (pv 0) (pe_glob (v := .ref _) (by rfl) G_WAYS rfl) (by rfl)))).pt (pss_one (ps_raise O_NoWay (by rfl))) pss_nil)),?_⟩
    refine ⟨_,rfl,x,t,"str",rfl,kn,nice_str,_,rfl,?_⟩
    rcases h with ⟨w,rfl,hw,q⟩ | ⟨hn,hE⟩
    · cases kn
      refine iteFalse (by decide) ?_
      refine ⟨_,rfl,pW,_,rfl,.inr (hW _),rfl,rfl,_,rfl,iteFalse ?_ q⟩
      rcases hw with rfl | rfl | rfl | rfl <;> decide
    · cases hs : isSub t "str" with
      | false => exact iteT hE
      | true =>
        obtain ⟨w,rfl⟩ : ∃ w,x = .str w := by
          cases kn with
          | str w => exact ⟨w,rfl⟩
          | non => exact absurd hs (by decide)
          | bl b => exact absurd hs (by decide)
          | int i => exact absurd hs (by decide)
          | lst e => exact absurd hs (by decide)
          | tup e => exact absurd hs (by decide)
          | dict e => exact absurd hs (by decide)
        refine iteF ?_
        refine ⟨_,rfl,pW,_,rfl,.inr (hW _),rfl,rfl,_,rfl,iteTrue ?_ hE⟩
        have hn' := hn w rfl
        have e : inV (.str w) [.str wOn,.str wPart,.str wFree,.str wHops] = false := by
          rw [Bool.eq_false_iff]
          intro z
          apply hn'
          have z' : (wOn == w || (wPart == w || (wFree == w || (wHops == w || false)))) = true := z
          simp only [Bool.or_eq_true,beq_iff_eq,Bool.false_eq_true,or_false] at z'
          rcases z' with h | h | h | h
          · exact .inl h.symm
          · exact .inr (.inl h.symm)
          · exact .inr (.inr (.inl h.symm))
          · exact .inr (.inr (.inr h.symm))
        show (if true = true then !inV (.str w) _ else _) = true
        rw [e]
        rfl
theorem S_is_pair : FnScope ["one","other","thing"] ["one","other","thing"] (defScope (top 25)) := ⟨rfl,rfl,rfl,by decide +kernel,rfl,by decide +kernel,by decide +kernel⟩
theorem fn_is_pair (D_is_pair : Df K mg "is_pair" (top 25)) (F_is_place : Fn P w K mg base "is_place" ["line","thing"] 3 spIsPlace) (T : Txt mg) : Fn P w K mg base "is_pair" ["one","other","thing"] 4 spPair := by
  refine D_is_pair.fn S_is_pair (fun _ _ _ _ _ _ us hl => by obtain ⟨_,_,_,rfl⟩ := len3 hl; rfl) (fun vs H Q E h => ?_) (fun f cdv A outer s H vs Q E hr h => ?_)
  · obtain ⟨l1,l2,xs1,xs2,v,rfl,_⟩ := h
    rfl
  · obtain ⟨l1,l2,xs1,xs2,v,rfl,⟨e1,n1⟩,⟨e2,n2⟩,pt,q⟩ := h
    refine ⟨_,(pss_cons (ps_if (pw_or (pt_not (pt_val (pe_callB call_isinst (by rfl) T.z_isinstance bt_isinstance (pa_cons (pv 2) (pa_cons (pe_ty T.z_tuple bt_tuple) pa_nil))))) (pw_or1 (pt_cmpR op_ne (pe_callB call_len_seq (by rfl) T.z_len bt_len (pa_cons (pv 2) pa_nil)) pe_int (nomark _)))).pt (pss_one (ps_ret pe_bl)) pss_nil) (pss_one (ps_ret (pe_and (pe_fn F_is_place (hr.mono (by decide)) (by rfl) (pa_cons (pv 0) (pa_cons (pe_ix ix_tup (pv 2) pe_int (fun _ _ => rfl)) pa_nil))) (pe_one (pe_fn F_is_place (hr.mono (by decide)) (by rfl) (pa_cons (pv 1) (pa_cons (pe_ix ix_tup (pv 2) pe_int (fun _ _ => rfl)) pa_nil)))))))),?_⟩
    obtain ⟨t,kn⟩ := pt.kn
    refine ⟨_,rfl,v,t,"tuple",rfl,kn,nice_tuple,_,rfl,?_⟩
    rcases Kn.cases_tp' (n := (xs1.length : Int) - 1) (m := (xs2.length : Int) - 1) kn with ⟨p,xs,rfl,e,rfl⟩ | ⟨hv,hs⟩
    · refine iteFalse (by decide) ?_
      refine ⟨_,rfl,p,xs,rfl,.inr (SqT.of e),rfl,_,rfl,ite3 (fun hc => ?_) (fun hc => ?_)⟩
      · have hn : xs.length ≠ 2 := by
          intro z
          rw [z] at hc
          exact absurd hc (by decide)
        have z : pairV ((xs1.length : Int) - 1) ((xs2.length : Int) - 1) H (.ref p) = false := by
          unfold pairV
          simp only [e]
          split
          · rename_i h
            cases h
            exact absurd rfl hn
          · rfl
        rw [z] at q
        exact q
      · have hn : xs.length = 2 := by
          have z : (xs.length : Int) = 2 := by simpa using hc
          omega
        obtain ⟨x,y,rfl⟩ := len2 hn
        rw [pairV_tup e] at q
        have tx := (pt.parts p _ rfl e x (by simp)).1
        have ty := (pt.parts p _ rfl e y (by simp)).1
        refine ⟨_,rfl,_,rfl,p,_,_,_,rfl,rfl,SqT.of e,rfl,l1,_,_,rfl,e1,n1,tx,_,rfl,ite3 (fun h1 => ?_) (fun h1 => ?_)⟩
        · rw [h1,Bool.true_and] at q
          exact ⟨_,rfl,_,rfl,p,_,_,_,rfl,rfl,SqT.of e,rfl,l2,_,_,rfl,e2,n2,ty,q⟩
        · rw [h1,Bool.false_and] at q
          exact q
    · rw [hv] at q
      rw [hs]
      exact iteT q
theorem S_are_pairs : FnScope ["one","other","thing"] ["one","other","thing"] (defScope (top 26)) := ⟨rfl,rfl,rfl,by decide +kernel,rfl,by decide +kernel,by decide +kernel⟩
theorem fn_are_pairs (D_are_pairs : Df K mg "are_pairs" (top 26)) (F_is_pair : Fn P w K mg base "is_pair" ["one","other","thing"] 4 spPair) (T : Txt mg) : Fn P w K mg base "are_pairs" ["one","other","thing"] 5 spPairs := by
  refine D_are_pairs.fn S_are_pairs (fun _ _ _ _ _ _ us hl => by obtain ⟨_,_,_,rfl⟩ := len3 hl; rfl) (fun vs H Q E h => ?_) (fun f cdv A outer s H vs Q E hr h => ?_)
  · obtain ⟨l1,l2,xs1,xs2,v,rfl,_⟩ := h
    rfl
  · obtain ⟨l1,l2,xs1,xs2,v,rfl,⟨e1,n1⟩,⟨e2,n2⟩,pt,q⟩ := h
    have CN : CompN (cxOf CX0 P w K mg base ["one","other","thing"] "are_pairs" (defScope (top 26)) f cdv A outer s H E).nox (Dr.compScope (retExpr ((defBody (top 26)).getD 1 (.Pass ⟨0,0,0,0⟩)))) [("other",s.heap.objs.size + 2),("one",s.heap.objs.size + 1)] "pair" [("one",0),("other",1)] :=
      ⟨by rfl,rfl,by decide +kernel,by decide +kernel,rfl,(fun p hp => by simp only [List.mem_cons,List.not_mem_nil,or_false] at hp; rcases hp with rfl | rfl <;> rfl),by rfl,by decide +kernel,(fun p hp => by simp only [List.mem_cons,List.not_mem_nil,or_false] at hp; rcases hp with rfl | rfl <;> exact ⟨rfl,rfl,.inr (.inl rfl),rfl,rfl⟩),⟨rfl,rfl⟩,rfl⟩
    refine ⟨_,(pss_cons (ps_if (pw_or (pt_not (pt_val (pe_callB call_isinst (by rfl) T.z_isinstance bt_isinstance (pa_cons (pv 2) (pa_cons (pe_ty T.z_list bt_list) pa_nil))))) (pw_or1 (pt_cmpR op_eq (pe_callB call_len_seq (by rfl) T.z_len bt_len (pa_cons (pv 2) pa_nil)) pe_int (nomark _)))).pt (pss_one (ps_ret pe_bl)) pss_nil) (pss_one (ps_ret (pe_callB (call_all rfl) (by rfl) T.z_all bt_all (pa_cons (pe_compA rfl CN (pi_list (pv 2)) (fun fp s₀ H₀ => (pe_fn F_is_pair (hr.mono (by decide)) (by rfl) (pa_cons (pv 1) (pa_cons (pv 2) (pa_cons (pv 0) pa_nil)))))) pa_nil))))),?_⟩
    obtain ⟨t,kn⟩ := pt.kn
    refine ⟨_,rfl,v,t,"list",rfl,kn,nice_list,_,rfl,?_⟩
    rcases Kn.cases_lst' (n := (xs1.length : Int) - 1) (m := (xs2.length : Int) - 1) kn with ⟨p,xs,rfl,e,rfl⟩ | ⟨hv,hs⟩
    · refine iteFalse (by decide) ?_
      rw [pairsV_lst e] at q
      obtain ⟨hlen,hth⟩ := pt.parts p xs rfl e
      refine ⟨_,rfl,p,xs,rfl,.inl (SqL.of e),rfl,_,rfl,ite3 (fun hc => ?_) (fun hc => ?_)⟩
      · have hn : xs = [] := by
          have z : (xs.length : Int) = 0 := by simpa using hc
          exact List.length_eq_zero_iff.mp (by omega)
        subst hn
        exact q H (Same.refl _)
      · have hn : xs ≠ [] := fun z => by
          subst z
          exact absurd hc (by decide)
        have hne : xs.isEmpty = false := by cases xs with | nil => exact absurd rfl hn | cons x r => rfl
        rw [hne] at q
        refine ⟨_,rfl,p,rfl,⟨_,SqL.of e⟩,comp_R (SqL.of e) (by omega) (fun i v' _ => v' = .bl (pairV ((xs1.length : Int) - 1) ((xs2.length : Int) - 1) H (xs.getD i .non))) (fun _ _ _ _ _ h => h) ?_ ?_⟩
        · intro i x H2 Kc hx s2 kk
          have hm := List.mem_of_getElem? hx
          refine ⟨_,rfl,_,rfl,_,rfl,l1,l2,_,_,_,rfl,⟨s2 _ _ e1,n1⟩,⟨s2 _ _ e2,n2⟩,(hth x hm).mono s2,kk _ _ (Same.refl _) ?_⟩
          rw [pairV_same (hth x hm) s2,List.getD_eq_getElem?_getD,hx]
          rfl
        · intro l ys H2 nl s2 f2 hl hr
          have ey : ys = (xs.map (pairV ((xs1.length : Int) - 1) ((xs2.length : Int) - 1) H)).map V.bl := by
            refine List.ext_getElem? fun i => ?_
            by_cases hi : i < xs.length
            · have h1 : ys[i]? = some ys[i] := List.getElem?_eq_getElem (by omega)
              rw [h1,hr i _ h1,List.getElem?_map,List.getElem?_map,List.getElem?_eq_getElem hi,List.getD_eq_getElem?_getD,List.getElem?_eq_getElem hi]
              rfl
            · rw [List.getElem?_eq_none (by omega),List.getElem?_eq_none (by simp; omega)]
          rw [ey] at f2
          refine ⟨l,_,rfl,SqL.of f2,?_⟩
          have z := q H2 s2
          rw [List.all_map]
          exact z
    · rw [hs]
      have z := q H (Same.refl _)
      rw [hv] at z
      exact iteT z
theorem at_lastP (f : Pr) (r : List Pr) : atI (prs (f :: r)) (-1) = some (.ref ((f :: r).getLast (by simp)).p) := by
  have h : prs (f :: r) = prs ((f :: r).dropLast) ++ [V.ref ((f :: r).getLast (by simp)).p] := by
    unfold prs
    rw [← List.map_singleton (f := fun (q : Pr) => V.ref q.p),← List.map_append,List.dropLast_concat_getLast]
  rw [h]
  exact atI_last _ _
theorem two_is (a b n : Int) : decide ([a,b] = [n,1]) = isP a b n := by
  unfold isP
  rw [Bool.eq_iff_iff]
  simp
theorem steps_iff {w : Str} : ∀ {ps : List Pr},stepsB w ps = true ↔ ∀ (j : Nat) u v,ps[j]? = some u → ps[j + 1]? = some v → stepB w u v = true
  | [] => by simp [stepsB]
  | [u] => by simp [stepsB]
  | u :: v :: r => by
    unfold stepsB
    rw [Bool.and_eq_true,steps_iff (ps := v :: r)]
    constructor
    · rintro ⟨h1,h2⟩ j x y ex ey
      cases j with
      | zero => cases ex; cases ey; exact h1
      | succ j => exact h2 j x y (by simpa using ex) (by simpa using ey)
    · intro h
      exact ⟨h 0 u v rfl rfl,fun j x y ex ey => h (j + 1) x y (by simpa using ex) (by simpa using ey)⟩
theorem S_has_right_ends_walks : FnScope ["one","other","walk","way","first","last"] ["one","other","walk","way"] (defScope (top 40)) := ⟨rfl,rfl,rfl,by decide +kernel,rfl,by decide +kernel,by decide +kernel⟩
theorem fn_has_right_ends_walks (D_has_right_ends_walks : DfA K mg "has_right_ends_walks" "has_right_ends" (top 40)) (F_last_of : Fn P w K mg base "last_of" ["line"] 1 spLast) : Fn P w K mg base "has_right_ends_walks" ["one","other","walk","way"] 2 spEnds := by
  refine D_has_right_ends_walks.fn S_has_right_ends_walks (fun _ _ _ _ _ _ us hl => by obtain ⟨_,_,_,_,rfl⟩ := len4 hl; rfl) (fun vs H Q E h => ?_) (fun f cdv A outer s H vs Q E hr h => ?_)
  · obtain ⟨l1,l2,l,xs1,xs2,f,r,w,rfl,_⟩ := h
    rfl
  · obtain ⟨l1,l2,l,xs1,xs2,f,r,w,rfl,e1,e2,P,q⟩ := h
    refine ⟨_,(pss_cons (ps_set (i := 4) S_has_right_ends_walks.nd rfl (Or.inl rfl) (pe_ix ix_list (pv 2) pe_int (fun _ _ => rfl))) (pss_cons (ps_set (i := 5) S_has_right_ends_walks.nd rfl (Or.inl rfl) (pe_ix ix_list (pv 2) (pe_un un_neg pe_int) (fun _ _ => rfl))) (pss_cons (ps_if (pw_or (pt_cmpR (op_neI hr.units0) (pe_ix ix_tup (pv 4) pe_int (fun _ _ => rfl)) (pe_tupA (pa_cons pe_int (pa_cons pe_int pa_nil))) (nomark _)) (pw_or1 (pt_cmpR (op_neI hr.units0) (pe_ix ix_tup (pv 5) pe_int (fun _ _ => rfl)) (pe_tupA (pa_cons (pe_fn F_last_of (hr.mono (by decide)) (by rfl) (pa_cons (pv 0) pa_nil)) (pa_cons pe_int pa_nil))) (nomark _)))).pt (pss_one (ps_ret pe_bl)) pss_nil) (pss_cons (ps_if (pt_cmpR op_eq (pv 3) pe_str (nomark _)) (pss_one (ps_ret pe_bl)) pss_nil) (pss_one (ps_ret (pe_and (pe_cmpR (op_eqI hr.units0) (pe_ix ix_tup (pv 4) pe_int (fun _ _ => rfl)) (pe_tupA (pa_cons pe_int (pa_cons pe_int pa_nil))) (nomark _)) (pe_one (pe_cmpR (op_eqI hr.units0) (pe_ix ix_tup (pv 5) pe_int (fun _ _ => rfl)) (pe_tupA (pa_cons (pe_fn F_last_of (hr.mono (by decide)) (by rfl) (pa_cons (pv 1) pa_nil)) (pa_cons pe_int pa_nil))) (nomark _)))))))))),?_⟩
    have hf := P.pr f (by simp)
    have hl := P.pr _ (List.getLast_mem (l := f :: r) (by simp))
    refine ⟨_,rfl,l,_,_,_,rfl,rfl,SqL.of P.lst,at_head (V.ref f.p) (prs r),?_⟩
    refine ⟨_,rfl,_,rfl,l,_,_,_,rfl,rfl,SqL.of P.lst,at_lastP f r,?_⟩
    generalize (f :: r).getLast (by simp) = z at *
    unfold endsB at q
    refine ⟨_,rfl,f.p,_,_,_,rfl,rfl,SqT.of hf.p_,rfl,sz (by simp),fun t1 H1 s1 g1 _ => ?_⟩
    refine ⟨f.x,t1,[f.a,f.b],[0,1],rfl,rfl,SqT.of (s1 _ _ hf.x_),SqT.of g1,_,rfl,?_⟩
    show if (!decide ([f.a,f.b] = [0,1])) = true then _ else _
    rw [two_is]
    refine ite3 (fun c1 => ?_) (fun c1 => ?_)
    · have c1' : isP f.a f.b 0 = false := by simpa using c1
      have y := q H1 s1
      rw [c1'] at y
      exact y
    have c1' : isP f.a f.b 0 = true := by simpa using c1
    rw [c1',Bool.true_and] at q
    have hl1 := hl.t s1.t
    refine ⟨_,rfl,z.p,_,_,_,rfl,rfl,SqT.of hl1.p_,rfl,_,rfl,l1,xs1,rfl,s1 _ _ e1,sz (by simp),fun t2 H2 s2 g2 _ => ?_⟩
    refine ⟨z.x,t2,[z.a,z.b],[(xs1.length : Int) - 1,1],rfl,rfl,SqT.of (s2 _ _ hl1.x_),SqT.of g2,_,rfl,?_⟩
    show if (!decide ([z.a,z.b] = [(xs1.length : Int) - 1,1])) = true then _ else _
    rw [two_is]
    refine ite3 (fun c2 => ?_) (fun c2 => ?_)
    · have c2' : isP z.a z.b ((xs1.length : Int) - 1) = false := by simpa using c2
      have y := q H2 (s1.trans s2)
      rw [c2'] at y
      exact y
    have c2' : isP z.a z.b ((xs1.length : Int) - 1) = true := by simpa using c2
    rw [c2'] at q
    refine ⟨_,rfl,rfl,_,rfl,ite3 (fun c3 => ?_) (fun c3 => ?_)⟩
    · have e : w = wPart := by
        have : V.str w = V.str wPart := dec_t c3
        cases this
        rfl
      have y := q H2 (s1.trans s2)
      rw [if_pos rfl,if_pos e] at y
      exact y
    · have e : ¬ w = wPart := fun z => by
        subst z
        exact absurd c3 (by decide)
      rw [if_pos rfl,if_neg e] at q
      have hf2 := hf.t (s1.trans s2).t
      have hl2 := hl1.t s2.t
      refine ⟨_,rfl,f.p,_,_,_,rfl,rfl,SqT.of hf2.p_,rfl,sz (by simp),fun t3 H3 s3 g3 _ => ?_⟩
      refine ⟨f.y,t3,[f.c,f.d],[0,1],rfl,rfl,SqT.of (s3 _ _ hf2.y_),SqT.of g3,_,rfl,?_⟩
      show if (decide ([f.c,f.d] = [0,1])) = true then _ else _
      rw [two_is]
      refine ite3 (fun c4 => ?_) (fun c4 => ?_)
      · rw [c4,Bool.true_and] at q
        have hl3 := hl2.t s3.t
        refine ⟨_,rfl,z.p,_,_,_,rfl,rfl,SqT.of hl3.p_,rfl,_,rfl,l2,xs2,rfl,(s1.trans (s2.trans s3)) _ _ e2,sz (by simp),fun t4 H4 s4 g4 _ => ?_⟩
        refine ⟨z.y,t4,[z.c,z.d],[(xs2.length : Int) - 1,1],rfl,rfl,SqT.of (s4 _ _ hl3.y_),SqT.of g4,?_⟩
        show Q (.bl (decide ([z.c,z.d] = [(xs2.length : Int) - 1,1]))) H4
        rw [two_is]
        exact q H4 (s1.trans (s2.trans (s3.trans s4)))
      · have y := q H3 (s1.trans (s2.trans s3))
        rw [c4] at y
        exact y
theorem S_goes_on : FnScope ["begin","end"] ["begin","end"] (defScope (top 42)) := ⟨rfl,rfl,rfl,by decide +kernel,rfl,by decide +kernel,by decide +kernel⟩
theorem fn_goes_on (D_goes_on : Df K mg "goes_on" (top 42)) (F_less : Fn P w K mg base "less" ["a","b"] 1 spLess) (F_share_a_stretch : Fn P w K mg base "share_a_stretch" ["one","other"] 3 spShare) : Fn P w K mg base "goes_on" ["begin","end"] 4 (spGo2 fun a b c d => (!decide (c * b < a * d)) && shareB a b c d) := by
  refine D_goes_on.fn S_goes_on (fun _ _ _ _ _ _ us hl => by obtain ⟨_,_,rfl⟩ := len2 hl; rfl) (fun vs H Q E h => ?_) (fun f cdv A outer s H vs Q E hr h => ?_)
  · obtain ⟨p,q,a,b,c,d,rfl,_⟩ := h
    rfl
  · obtain ⟨p,q,a,b,c,d,rfl,ep,eq,sa,sc,k⟩ := h
    refine ⟨_,(pss_one (ps_ret (pe_and (pe_not (pe_fn F_less (hr.mono (by decide)) (by rfl) (pa_cons (pv 1) (pa_cons (pv 0) pa_nil)))) (pe_one (pe_fn F_share_a_stretch (hr.mono (by decide)) (by rfl) (pa_cons (pv 0) (pa_cons (pv 1) pa_nil))))))),?_⟩
    try dsimp only at k
    refine ⟨_,rfl,_,rfl,q,p,c,d,a,b,rfl,eq,ep,⟨bits_le sc.ba (by decide),bits_le sc.bb (by decide),bits_le sa.ba (by decide),bits_le sa.bb (by decide)⟩,_,rfl,_,rfl,ite3 (fun h1 => ?_) (fun h1 => ?_)⟩
    · refine ⟨_,rfl,_,rfl,p,q,a,b,c,d,rfl,ep,eq,sa,sc,fun H' s' => ?_⟩
      have y := k H' s'
      rw [h1,Bool.true_and] at y
      exact y
    · have y := k H (Same.refl _)
      rw [h1,Bool.false_and] at y
      exact y
theorem S_goes_freely : FnScope ["begin","end"] ["begin","end"] (defScope (top 43)) := ⟨rfl,rfl,rfl,by decide +kernel,rfl,by decide +kernel,by decide +kernel⟩
theorem fn_goes_freely (D_goes_freely : Df K mg "goes_freely" (top 43)) (F_share_a_stretch : Fn P w K mg base "share_a_stretch" ["one","other"] 3 spShare) : Fn P w K mg base "goes_freely" ["begin","end"] 4 (spGo2 shareB) := by
  refine D_goes_freely.fn S_goes_freely (fun _ _ _ _ _ _ us hl => by obtain ⟨_,_,rfl⟩ := len2 hl; rfl) (fun vs H Q E h => ?_) (fun f cdv A outer s H vs Q E hr h => ?_)
  · obtain ⟨p,q,a,b,c,d,rfl,_⟩ := h
    rfl
  · obtain ⟨p,q,a,b,c,d,rfl,ep,eq,sa,sc,k⟩ := h
    refine ⟨_,(pss_one (ps_ret (pe_fn F_share_a_stretch (hr.mono (by decide)) (by rfl) (pa_cons (pv 0) (pa_cons (pv 1) pa_nil))))),?_⟩
    exact ⟨_,rfl,_,rfl,p,q,a,b,c,d,rfl,ep,eq,sa,sc,k⟩
theorem S_hops : FnScope ["begin","end"] ["begin","end"] (defScope (top 44)) := ⟨rfl,rfl,rfl,by decide +kernel,rfl,by decide +kernel,by decide +kernel⟩
theorem fn_hops (D_hops : Df K mg "hops" (top 44)) : Fn P w K mg base "hops" ["begin","end"] 1 (spGo2 fun a b c d => decide (b = 1) && (decide (d = 1) && (decide (c - a = 0) || decide (c - a = 1)))) := by
  refine D_hops.fn S_hops (fun _ _ _ _ _ _ us hl => by obtain ⟨_,_,rfl⟩ := len2 hl; rfl) (fun vs H Q E h => ?_) (fun f cdv A outer s H vs Q E hr h => ?_)
  · obtain ⟨p,q,a,b,c,d,rfl,_⟩ := h
    rfl
  · obtain ⟨p,q,a,b,c,d,rfl,ep,eq,sa,sc,k⟩ := h
    refine ⟨_,(pss_one (ps_ret (pe_and (pe_cmpR op_eq (pe_ix ix_tup (pv 0) pe_int (fun _ _ => rfl)) pe_int (nomark _)) (pe_and (pe_cmpR op_eq (pe_ix ix_tup (pv 1) pe_int (fun _ _ => rfl)) pe_int (nomark _)) (pe_one (pe_cmpR op_in_seq (pe_op op_sub (pe_ix ix_tup (pv 1) pe_int (fun _ _ => rfl)) (pe_ix ix_tup (pv 0) pe_int (fun _ _ => rfl))) (pe_tupA (pa_cons pe_int (pa_cons pe_int pa_nil))) (by rfl))))))),?_⟩
    try dsimp only at k
    have di : ∀ i j : Int,decide (V.int i = V.int j) = decide (i = j) := fun i j => by
      rw [Bool.eq_iff_iff]
      simp
    refine ⟨_,rfl,p,_,_,_,rfl,rfl,SqT.of ep,rfl,rfl,_,rfl,?_⟩
    rw [di]
    refine ite3 (fun h1 => ?_) (fun h1 => ?_)
    · rw [h1,Bool.true_and] at k
      refine ⟨_,rfl,q,_,_,_,rfl,rfl,SqT.of eq,rfl,rfl,_,rfl,?_⟩
      rw [di]
      refine ite3 (fun h2 => ?_) (fun h2 => ?_)
      · rw [h2,Bool.true_and] at k
        refine ⟨_,rfl,q,_,_,_,rfl,rfl,SqT.of eq,rfl,_,rfl,p,_,_,_,rfl,rfl,SqT.of ep,rfl,_,_,rfl,rfl,sz (by simp),fun t H1 s1 g1 _ => ?_⟩
        refine ⟨t,_,rfl,.inr (SqT.of g1),rfl,rfl,?_⟩
        have e : inV (.int (c - a)) [.int 0,.int 1] = (decide (c - a = 0) || decide (c - a = 1)) := by
          show ((0 : Int) == (c - a) || ((1 : Int) == (c - a) || false)) = _
          rw [Bool.eq_iff_iff]
          simp only [Bool.or_eq_true,beq_iff_eq,decide_eq_true_eq,Bool.false_eq_true,or_false]
          omega
        show Q (.bl (inV (.int (c - a)) [.int 0,.int 1])) H1
        rw [e]
        exact k H1 s1
      · have y := k H (Same.refl _)
        rw [h2,Bool.false_and] at y
        exact y
    · have y := k H (Same.refl _)
      rw [h1,Bool.false_and] at y
      exact y
theorem S_may_step_walks : FnScope ["begin","end","way"] ["begin","end","way"] (defScope (top 45)) := ⟨rfl,rfl,rfl,by decide +kernel,rfl,by decide +kernel,by decide +kernel⟩
theorem fn_may_step_walks (D_may_step_walks : DfA K mg "may_step_walks" "may_step" (top 45)) (F_hops : Fn P w K mg base "hops" ["begin","end"] 1 (spGo2 fun a b c d => decide (b = 1) && (decide (d = 1) && (decide (c - a = 0) || decide (c - a = 1))))) (F_goes_freely : Fn P w K mg base "goes_freely" ["begin","end"] 4 (spGo2 shareB)) (F_goes_on : Fn P w K mg base "goes_on" ["begin","end"] 4 (spGo2 fun a b c d => (!decide (c * b < a * d)) && shareB a b c d)) : Fn P w K mg base "may_step_walks" ["begin","end","way"] 5 spMay := by
  refine D_may_step_walks.fn S_may_step_walks (fun _ _ _ _ _ _ us hl => by obtain ⟨_,_,_,rfl⟩ := len3 hl; rfl) (fun vs H Q E h => ?_) (fun f cdv A outer s H vs Q E hr h => ?_)
  · obtain ⟨p,q,a,b,c,d,w,rfl,_⟩ := h
    rfl
  · obtain ⟨p,q,a,b,c,d,w,rfl,ep,eq,sa,sc,k⟩ := h
    refine ⟨_,(pss_cons (ps_if (pt_cmpR op_eq (pv 2) pe_str (nomark _)) (pss_one (ps_ret (pe_fn F_hops (hr.mono (by decide)) (by rfl) (pa_cons (pv 0) (pa_cons (pv 1) pa_nil))))) pss_nil) (pss_cons (ps_if (pt_cmpR op_eq (pv 2) pe_str (nomark _)) (pss_one (ps_ret (pe_fn F_goes_freely (hr.mono (by decide)) (by rfl) (pa_cons (pv 0) (pa_cons (pv 1) pa_nil))))) pss_nil) (pss_one (ps_ret (pe_fn F_goes_on (hr.mono (by decide)) (by rfl) (pa_cons (pv 0) (pa_cons (pv 1) pa_nil))))))),?_⟩
    have ds : ∀ {u v : Str} {b : Bool},decide (V.str u = V.str v) = b → decide (u = v) = b := fun {u v b} h => by
      rw [← h,Bool.eq_iff_iff]
      simp
    unfold goB at k
    refine ⟨_,rfl,rfl,_,rfl,ite3 (fun h1 => ?_) (fun h1 => ?_)⟩
    · rw [if_pos (show w = wHops from dec_t (ds h1))] at k
      exact ⟨_,rfl,_,rfl,p,q,a,b,c,d,rfl,ep,eq,sa,sc,k⟩
    rw [if_neg (show ¬ w = wHops from dec_f (ds h1))] at k
    refine ⟨_,rfl,rfl,_,rfl,ite3 (fun h2 => ?_) (fun h2 => ?_)⟩
    · rw [if_pos (show w = wFree from dec_t (ds h2))] at k
      exact ⟨_,rfl,_,rfl,p,q,a,b,c,d,rfl,ep,eq,sa,sc,k⟩
    rw [if_neg (show ¬ w = wFree from dec_f (ds h2))] at k
    exact ⟨_,rfl,_,rfl,p,q,a,b,c,d,rfl,ep,eq,sa,sc,k⟩
theorem S_has_right_steps_walks : FnScope ["walk","way","begin","end"] ["walk","way"] (defScope (top 47)) := ⟨rfl,rfl,rfl,by decide +kernel,rfl,by decide +kernel,by decide +kernel⟩
theorem fn_has_right_steps_walks (D_has_right_steps_walks : DfA K mg "has_right_steps_walks" "has_right_steps" (top 47)) (F_may_step_walks : Fn P w K mg base "may_step_walks" ["begin","end","way"] 5 spMay) (T : Txt mg) : Fn P w K mg base "has_right_steps_walks" ["walk","way"] 6 spSteps := by
  refine D_has_right_steps_walks.fn S_has_right_steps_walks (fun _ _ _ _ _ _ us hl => by obtain ⟨_,_,rfl⟩ := len2 hl; rfl) (fun vs H Q E h => ?_) (fun f cdv A outer s H vs Q E hr h => ?_)
  · obtain ⟨l,ps,w,rfl,_⟩ := h
    rfl
  · obtain ⟨l,ps,w,rfl,P,hlen,k⟩ := h
    refine ⟨_,(pss_cons (ps_for PassesOwn.never rfl (pi_zip rfl T.z_zip (pa_cons (pv 0) (pa_cons (pe_slice sl_listA (pv 0) (po_some pe_int) po_none) pa_nil))) (pg_tup rfl (pgs_cons (pg_name (i := 2) S_has_right_steps_walks.nd rfl (Or.inl rfl)) (pgs_cons (pg_name (i := 3) S_has_right_steps_walks.nd rfl (Or.inl rfl)) pgs_nil))) (pss_one (ps_if (pw_or (pt_not (pt_val (pe_fn F_may_step_walks (hr.mono (by decide)) (by rfl) (pa_cons (pe_ix ix_tup (pv 2) pe_int (fun _ _ => rfl)) (pa_cons (pe_ix ix_tup (pv 3) pe_int (fun _ _ => rfl)) (pa_cons (pv 1) pa_nil)))))) (pw_or1 (pt_not (pt_val (pe_fn F_may_step_walks (hr.mono (by decide)) (by rfl) (pa_cons (pe_ix ix_tup (pv 2) pe_int (fun _ _ => rfl)) (pa_cons (pe_ix ix_tup (pv 3) pe_int (fun _ _ => rfl)) (pa_cons (pv 1) pa_nil)))))))).pt (pss_one (ps_ret pe_bl)) pss_nil))) (pss_one (ps_ret pe_bl))),?_⟩
    have ec : cutV (prs ps) (some 1) none = prs (ps.drop 1) := by
      unfold cutV prs
      rw [show (1 : Int) = ((1 : Nat) : Int) from rfl,HT.sIx_nat,HT.sIx_none,List.length_map,← List.map_drop]
      by_cases h : 1 ≤ ps.length
      · rw [Nat.min_eq_left h,List.take_of_length_le (by rw [List.length_map,List.length_drop]; exact Nat.le_refl _)]
      · have e0 : ps = [] := List.length_eq_zero_iff.mp (by omega)
        subst e0
        rfl
    refine ⟨_,rfl,_,rfl,_,rfl,l,_,rfl,SqL.of P.lst,fun l2 H1 s1 f1 n1 => ?_⟩
    rw [ec] at f1
    have P1 := P.mono s1
    have lmin : min (prs ps).length (prs (ps.drop 1)).length = ps.length - 1 := by rw [prs_len,prs_len,List.length_drop]; omega
    refine ⟨l,l2,rfl,⟨_,SqL.of P1.lst⟩,⟨_,SqL.of f1⟩,for_zip (K := K) (xs := prs ps) (ys := prs (ps.drop 1)) (fun i σ H2 => ∃ z1 z2,σ = [some (.ref l),some (.str w),z1,z2] ∧ Same H1 H2 ∧ ∀ (j : Nat) u v,j < i → ps[j]? = some u → ps[j + 1]? = some v → stepB w u v = true)
      ⟨_,_,rfl,Same.refl _,fun j u v h => absurd h (by omega)⟩ (fun i σ H2 _ ⟨_,_,_,s2,_⟩ => ⟨SqL.of (s2 _ _ P1.lst),SqL.of (s2 _ _ f1)⟩) ?_ ?_⟩
    · rintro i x y pp σ H2 H3 hx hy ⟨z1,z2,rfl,s2,hst⟩ s3 f3
      obtain ⟨u,hu,rfl⟩ := prs_get hx
      obtain ⟨v,hv,rfl⟩ := prs_get hy
      have hv' : ps[i + 1]? = some v := by rw [List.getElem?_drop] at hv; rw [Nat.add_comm]; exact hv
      have pu := (P1.pr u (List.mem_of_getElem? hu)).t (s2.trans s3).t
      have pv := (P1.pr v (List.mem_of_getElem? hv')).t (s2.trans s3).t
      have bad : stepB w u v = false → ∀ H',Same H3 H' → Q (.bl false) H' := fun hb H' s' => by
        have y := k H' (s1.trans (s2.trans (s3.trans s')))
        have z : stepsB w ps = false := by
          rw [Bool.eq_false_iff]
          intro z
          rw [steps_iff.mp z i u v hu hv'] at hb
          cases hb
        rw [z] at y
        exact y
      refine ⟨pp,_,rfl,SqT.of f3,rfl,_,_,rfl,_,_,rfl,rfl,?_⟩
      refine ⟨_,rfl,u.p,_,_,_,rfl,rfl,SqT.of pu.p_,rfl,_,rfl,v.p,_,_,_,rfl,rfl,SqT.of pv.p_,rfl,_,rfl,u.x,v.x,_,_,_,_,w,rfl,pu.x_,pv.x_,pu.sx,pv.sx,fun H4 s4 => ⟨_,rfl,ite3 (fun h1 => ?_) (fun h1 => ?_)⟩⟩
      · have h1 : goB w u.a u.b v.a v.b = false := by simpa using h1
        exact bad (by unfold stepB; rw [h1,Bool.false_and]) H4 s4
      have h1 : goB w u.a u.b v.a v.b = true := by simpa using h1
      have pu4 := pu.t s4.t
      have pv4 := pv.t s4.t
      refine ⟨_,rfl,u.p,_,_,_,rfl,rfl,SqT.of pu4.p_,rfl,_,rfl,v.p,_,_,_,rfl,rfl,SqT.of pv4.p_,rfl,_,rfl,u.y,v.y,_,_,_,_,w,rfl,pu4.y_,pv4.y_,pu4.sy,pv4.sy,fun H5 s5 => ⟨_,rfl,ite3 (fun h2 => ?_) (fun h2 => ?_)⟩⟩
      · have h2 : goB w u.c u.d v.c v.d = false := by simpa using h2
        exact bad (by unfold stepB; rw [h2,Bool.and_false]) H5 (s4.trans s5)
      have h2 : goB w u.c u.d v.c v.d = true := by simpa using h2
      refine ⟨_,_,rfl,s2.trans (s3.trans (s4.trans s5)),fun j u' v' hj eu ev => ?_⟩
      by_cases hji : j < i
      · exact hst j u' v' hji eu ev
      · have : j = i := by omega
        subst this
        rw [hu] at eu
        rw [hv'] at ev
        cases eu
        cases ev
        unfold stepB
        rw [h1,h2]
        rfl
    · rintro σ H2 ⟨z1,z2,rfl,s2,hst⟩
      have y := k H2 (s1.trans s2)
      have z : stepsB w ps = true := steps_iff.mpr fun j u v eu ev => hst j u v (by
        have := (List.getElem?_eq_some_iff.mp ev).1
        rw [lmin]
        omega) eu ev
      rw [z] at y
      exact y
theorem S_is_walk : FnScope ["one","other","thing","way"] ["one","other","thing","way"] (defScope (top 49)) := ⟨rfl,rfl,rfl,by decide +kernel,rfl,by decide +kernel,by decide +kernel⟩
theorem fn_is_walk {C : Addr} (D_is_walk : DfD K mg "is_walk" (top 49) [.str "on"]) (F_look_at_way : Fx P w K mg base "look_at_way" ["way"] 1 [] (spWayS C)) (F_are_pairs : Fn P w K mg base "are_pairs" ["one","other","thing"] 5 spPairs) (F_has_right_ends_walks : Fn P w K mg base "has_right_ends_walks" ["one","other","walk","way"] 2 spEnds) (F_has_right_steps_walks : Fn P w K mg base "has_right_steps_walks" ["walk","way"] 6 spSteps) : Fx P w K mg base "is_walk" ["one","other","thing","way"] 7 [.str "on"] (spIsWalk C) := by
  refine D_is_walk.fx S_is_walk (fun T kV doc pm an cdv ct us its oT n s hv hl ho hs => ?_) (fun T kV doc pm an cdv ct us its oT n s hv hl ho hs => ?_) (fun vs H Q E h => ?_) (fun f cdv A outer s H vs Q E hr h => ?_)
  · obtain ⟨u,rfl,_⟩ := vals1 hv
    match us,hl with
    | [_,_,_,_],_ => exact BindsTo.of_defaults rfl ho hs rfl rfl
  · obtain ⟨u,rfl,_⟩ := vals1 hv
    have hl1 : us.length = 3 := by simpa using hl
    match us,hl1 with
    | [_,_,_],_ => exact BindsTo.of_defaults rfl ho hs rfl rfl
  · obtain ⟨l1,l2,xs1,xs2,v,x,t,rfl,_⟩ := h
    rfl
  · obtain ⟨l1,l2,xs1,xs2,v,x,t,rfl,⟨e1,n1⟩,⟨e2,n2⟩,pt,kn,h⟩ := h
    refine ⟨_,(pss_cons (ps_expr (pe_fx F_look_at_way (hr.mono (by decide)) (by rfl) (pa_cons (pv 3) pa_nil))) (pss_cons (ps_if (pt_not (pt_val (pe_fn F_are_pairs (hr.mono (by decide)) (by rfl) (pa_cons (pv 0) (pa_cons (pv 1) (pa_cons (pv 2) pa_nil)))))) (pss_one (ps_ret pe_bl)) pss_nil) (pss_one (ps_ret (pe_and (pe_fn F_has_right_ends_walks (hr.mono (by decide)) (by rfl) (pa_cons (pv 0) (pa_cons (pv 1) (pa_cons (pv 2) (pa_cons (pv 3) pa_nil))))) (pe_one (pe_fn F_has_right_steps_walks (hr.mono (by decide)) (by rfl) (pa_cons (pv 2) (pa_cons (pv 3) pa_nil))))))))),?_⟩
    rcases h with ⟨w,rfl,hw,q⟩ | ⟨hn,hE⟩
    · refine ⟨_,rfl,_,_,rfl,kn,.inl ⟨w,rfl,hw,?_⟩⟩
      refine ⟨_,rfl,_,rfl,_,rfl,l1,l2,xs1,xs2,v,rfl,⟨e1,n1⟩,⟨e2,n2⟩,pt,fun H1 s1 => ⟨_,rfl,ite3 (fun h1 => ?_) (fun h1 => ?_)⟩⟩
      · exact q false H1 s1 (.inl ⟨by simpa using h1,rfl⟩)
      · have h1 : pairsV ((xs1.length : Int) - 1) ((xs2.length : Int) - 1) H v = true := by simpa using h1
        obtain ⟨l,ps,rfl,P,hne,hin,hlen⟩ := pairsV_inv pt h1
        match ps,hne,P,hin,hlen with
        | f :: r,_,P,hin,hlen =>
          refine ⟨_,rfl,_,rfl,_,rfl,_,rfl,l1,l2,l,xs1,xs2,f,r,w,rfl,s1 _ _ e1,s1 _ _ e2,P.mono s1,fun H2 s2 => ⟨_,rfl,ite3 (fun h2 => ?_) (fun h2 => ?_)⟩⟩
          · refine ⟨_,rfl,_,rfl,l,f :: r,w,rfl,(P.mono s1).mono s2,hlen,fun H3 s3 => q _ H3 (s1.trans (s2.trans s3)) (.inr ⟨l,f :: r,rfl,P,?_⟩)⟩
            rw [walkB_cons,hin,h2]
            rfl
          · refine q _ H2 (s1.trans s2) (.inr ⟨l,f :: r,rfl,P,?_⟩)
            rw [walkB_cons,hin,h2]
            rfl
    · exact ⟨_,rfl,_,_,rfl,kn,.inr ⟨hn,hE⟩⟩
theorem S_has_right_ends_fences : FnScope ["one","other","fence","way","first","last","begins_on_top","ends_on_ground"] ["one","other","fence","way"] (defScope (top 52)) := ⟨rfl,rfl,rfl,by decide +kernel,rfl,by decide +kernel,by decide +kernel⟩
theorem fn_has_right_ends_fences (D_has_right_ends_fences : DfA K mg "has_right_ends_fences" "has_right_ends" (top 52)) (F_last_of : Fn P w K mg base "last_of" ["line"] 1 spLast) : Fn P w K mg base "has_right_ends_fences" ["one","other","fence","way"] 2 spFEnds := by
  refine D_has_right_ends_fences.fn S_has_right_ends_fences (fun _ _ _ _ _ _ us hl => by obtain ⟨_,_,_,_,rfl⟩ := len4 hl; rfl) (fun vs H Q E h => ?_) (fun f cdv A outer s H vs Q E hr h => ?_)
  · obtain ⟨l1,l2,l,xs1,xs2,f,r,wy,rfl,_⟩ := h
    rfl
  · obtain ⟨l1,l2,l,xs1,xs2,f,r,wy,rfl,e1,e2,P,q⟩ := h
    refine ⟨_,(pss_cons (ps_set (i := 4) S_has_right_ends_fences.nd rfl (Or.inl rfl) (pe_ix ix_list (pv 2) pe_int (fun _ _ => rfl))) (pss_cons (ps_set (i := 5) S_has_right_ends_fences.nd rfl (Or.inl rfl) (pe_ix ix_list (pv 2) (pe_un un_neg pe_int) (fun _ _ => rfl))) (pss_cons (ps_set (i := 6) S_has_right_ends_fences.nd rfl (Or.inl rfl) (pe_cmpR (op_eqI hr.units0) (pe_ix ix_tup (pv 4) pe_int (fun _ _ => rfl)) (pe_tupA (pa_cons (pe_fn F_last_of (hr.mono (by decide)) (by rfl) (pa_cons (pv 1) pa_nil)) (pa_cons pe_int pa_nil))) (nomark _))) (pss_cons (ps_set (i := 7) S_has_right_ends_fences.nd rfl (Or.inl rfl) (pe_cmpR (op_eqI hr.units0) (pe_ix ix_tup (pv 5) pe_int (fun _ _ => rfl)) (pe_tupA (pa_cons pe_int (pa_cons pe_int pa_nil))) (nomark _))) (pss_cons (ps_if (pt_cmpR op_eq (pv 3) pe_str (nomark _)) (pss_one (ps_ret (pe_and (pv 6) (pe_one (pv 7))))) pss_nil) (pss_one (ps_ret (pe_and (pe_or (pv 6) (pe_one (pe_cmpR (op_eqI hr.units0) (pe_ix ix_tup (pv 4) pe_int (fun _ _ => rfl)) (pe_tupA (pa_cons pe_int (pa_cons pe_int pa_nil))) (nomark _)))) (pe_one (pe_or (pv 7) (pe_one (pe_cmpR (op_eqI hr.units0) (pe_ix ix_tup (pv 5) pe_int (fun _ _ => rfl)) (pe_tupA (pa_cons (pe_fn F_last_of (hr.mono (by decide)) (by rfl) (pa_cons (pv 0) pa_nil)) (pa_cons pe_int pa_nil))) (nomark _))))))))))))),?_⟩
    have hf := P.pr f (by simp)
    have hl := P.pr _ (List.getLast_mem (l := f :: r) (by simp))
    refine ⟨_,rfl,l,_,_,_,rfl,rfl,SqL.of P.lst,at_head (V.ref f.p) (prs r),?_⟩
    refine ⟨_,rfl,_,rfl,l,_,_,_,rfl,rfl,SqL.of P.lst,at_lastP f r,?_⟩
    generalize (f :: r).getLast (by simp) = z at *
    refine ⟨_,rfl,f.p,_,_,_,rfl,rfl,SqT.of hf.p_,rfl,_,rfl,l2,xs2,rfl,e2,sz (by simp),fun t1 H1 s1 g1 _ => ?_⟩
    refine ⟨f.y,t1,[f.c,f.d],[(xs2.length : Int) - 1,1],rfl,rfl,SqT.of (s1 _ _ hf.y_),SqT.of g1,?_⟩
    have hl1 := hl.t s1.t
    refine ⟨_,rfl,z.p,_,_,_,rfl,rfl,SqT.of hl1.p_,rfl,sz (by simp),fun t2 H2 s2 g2 _ => ?_⟩
    refine ⟨z.y,t2,[z.c,z.d],[0,1],rfl,rfl,SqT.of (s2 _ _ hl1.y_),SqT.of g2,?_⟩
    have S2 := s1.trans s2
    have hf2 := hf.t S2.t
    have hl2 := hl.t S2.t
    have ef : (if false = true then !decide ([f.c,f.d] = [(xs2.length : Int) - 1,1]) else decide ([f.c,f.d] = [(xs2.length : Int) - 1,1])) = isP f.c f.d ((xs2.length : Int) - 1) := by rw [if_neg (by decide),two_is]
    have ez : (if false = true then !decide ([z.c,z.d] = [(0 : Int),1]) else decide ([z.c,z.d] = [(0 : Int),1])) = isP z.c z.d 0 := by rw [if_neg (by decide),two_is]
    unfold fendsB at q
    refine ⟨_,rfl,rfl,_,rfl,ite3 (fun c3 => ?_) (fun c3 => ?_)⟩
    · rw [if_pos (show wy = wPart from dec_t (ds c3))] at q
      refine ⟨_,rfl,_,rfl,ite3 (fun c4 => ?_) (fun c4 => ?_)⟩
      · rw [ef] at c4
        rw [c4,Bool.true_and,← ez] at q
        exact ⟨_,rfl,q H2 S2⟩
      · have y := q H2 S2
        rw [ef] at c4
        rw [c4,Bool.false_and] at y
        exact y
    rw [if_neg (show ¬ wy = wPart from dec_f (ds c3))] at q
    refine ⟨_,rfl,_,rfl,ite3 (fun c4 => ?_) (fun c4 => ?_)⟩
    · rw [ef] at c4
      have E1 : (isP f.c f.d ((xs2.length : Int) - 1) || isP f.a f.b 0) = true := by rw [c4,Bool.true_or]
      refine ⟨_,rfl,iteT ?_⟩
      refine ⟨_,rfl,_,rfl,ite3 (fun c5 => ?_) (fun c5 => ?_)⟩
      · rw [ez] at c5
        have y := q H2 S2
        rw [E1,c5] at y
        exact y
      · rw [ez] at c5
        refine ⟨_,rfl,z.p,_,_,_,rfl,rfl,SqT.of (hl.t S2.t).p_,rfl,_,rfl,l1,xs1,rfl,S2 _ _ e1,sz (by simp),fun t5 H5 s5 g5 _ => ?_⟩
        refine ⟨z.x,t5,[z.a,z.b],[(xs1.length : Int) - 1,1],rfl,rfl,SqT.of (s5 _ _ (hl.t S2.t).x_),SqT.of g5,?_⟩
        have y := q H5 (S2.trans s5)
        rw [E1,c5,Bool.true_and,Bool.false_or,← two_is] at y
        exact y
    · rw [ef] at c4
      refine ⟨_,rfl,f.p,_,_,_,rfl,rfl,SqT.of hf2.p_,rfl,sz (by simp),fun t3 H3 s3 g3 _ => ?_⟩
      refine ⟨f.x,t3,[f.a,f.b],[0,1],rfl,rfl,SqT.of (s3 _ _ hf2.x_),SqT.of g3,_,rfl,?_⟩
      show if (decide ([f.a,f.b] = [(0 : Int),1])) = true then _ else _
      rw [two_is]
      have S3 := S2.trans s3
      refine ite3 (fun c6 => ?_) (fun c6 => ?_)
      · have E1 : (isP f.c f.d ((xs2.length : Int) - 1) || isP f.a f.b 0) = true := by rw [c6,Bool.or_true]
        refine ⟨_,rfl,_,rfl,ite3 (fun c5 => ?_) (fun c5 => ?_)⟩
        · rw [ez] at c5
          have y := q H3 S3
          rw [E1,c5] at y
          exact y
        · rw [ez] at c5
          refine ⟨_,rfl,z.p,_,_,_,rfl,rfl,SqT.of (hl.t S3.t).p_,rfl,_,rfl,l1,xs1,rfl,S3 _ _ e1,sz (by simp),fun t5 H5 s5 g5 _ => ?_⟩
          refine ⟨z.x,t5,[z.a,z.b],[(xs1.length : Int) - 1,1],rfl,rfl,SqT.of (s5 _ _ (hl.t S3.t).x_),SqT.of g5,?_⟩
          have y := q H5 (S3.trans s5)
          rw [E1,c5,Bool.true_and,Bool.false_or,← two_is] at y
          exact y
      · have y := q H3 S3
        rw [c4,c6] at y
        exact y
theorem S_steps_back : FnScope ["begin","end"] ["begin","end"] (defScope (top 54)) := ⟨rfl,rfl,rfl,by decide +kernel,rfl,by decide +kernel,by decide +kernel⟩
theorem fn_steps_back (D_steps_back : Df K mg "steps_back" (top 54)) (F_less : Fn P w K mg base "less" ["a","b"] 1 spLess) : Fn P w K mg base "steps_back" ["begin","end"] 2 (spTwo backB) := by
  refine D_steps_back.fn S_steps_back (fun _ _ _ _ _ _ us hl => by obtain ⟨_,_,rfl⟩ := len2 hl; rfl) (fun vs H Q E h => ?_) (fun f cdv A outer s H vs Q E hr h => ?_)
  · obtain ⟨u,v,rfl,_⟩ := h
    rfl
  · obtain ⟨u,v,rfl,pu,qv,q⟩ := h
    refine ⟨_,(pss_one (ps_ret (pe_and (pe_not (pe_fn F_less (hr.mono (by decide)) (by rfl) (pa_cons (pe_ix ix_tup (pv 0) pe_int (fun _ _ => rfl)) (pa_cons (pe_ix ix_tup (pv 1) pe_int (fun _ _ => rfl)) pa_nil)))) (pe_one (pe_not (pe_fn F_less (hr.mono (by decide)) (by rfl) (pa_cons (pe_ix ix_tup (pv 1) pe_int (fun _ _ => rfl)) (pa_cons (pe_ix ix_tup (pv 0) pe_int (fun _ _ => rfl)) pa_nil)))))))),?_⟩
    unfold backB ltB at q
    have b := ltB_bits pu qv
    refine ⟨_,rfl,u.p,_,_,_,rfl,rfl,SqT.of pu.p_,rfl,_,rfl,v.p,_,_,_,rfl,rfl,SqT.of qv.p_,rfl,u.x,v.x,_,_,_,_,rfl,pu.x_,qv.x_,b.1,_,rfl,_,rfl,ite3 (fun h1 => ?_) (fun h1 => ?_)⟩
    · have y := q H (Same.refl _)
      rw [h1,Bool.true_and] at y
      exact ⟨_,rfl,v.p,_,_,_,rfl,rfl,SqT.of qv.p_,rfl,_,rfl,u.p,_,_,_,rfl,rfl,SqT.of pu.p_,rfl,v.y,u.y,_,_,_,_,rfl,qv.y_,pu.y_,b.2,_,rfl,y⟩
    · have y := q H (Same.refl _)
      rw [h1,Bool.false_and] at y
      exact y
theorem S_keeps_corner : FnScope ["begin","end","number","kept"] ["begin","end","number"] (defScope (top 55)) := ⟨rfl,rfl,rfl,by decide +kernel,rfl,by decide +kernel,by decide +kernel⟩
theorem fn_keeps_corner (D_keeps_corner : Df K mg "keeps_corner" (top 55)) (F_share_a_stretch : Fn P w K mg base "share_a_stretch" ["one","other"] 3 spShare) : Fn P w K mg base "keeps_corner" ["begin","end","number"] 4 spKeep := by
  refine D_keeps_corner.fn S_keeps_corner (fun _ _ _ _ _ _ us hl => by obtain ⟨_,_,_,rfl⟩ := len3 hl; rfl) (fun vs H Q E h => ?_) (fun f cdv A outer s H vs Q E hr h => ?_)
  · obtain ⟨u,v,n,rfl,_⟩ := h
    rfl
  · obtain ⟨u,v,n,rfl,hn,pu,qv,q⟩ := h
    refine ⟨_,(pss_cons (ps_set (i := 3) S_keeps_corner.nd rfl (Or.inl rfl) (pe_ix ix_tup (pv 0) (pv 2) (fun _ _ => rfl))) (pss_one (ps_ret (pe_and (pe_cmpR (op_eqI hr.units0) (pv 3) (pe_ix ix_tup (pv 1) (pv 2) (fun _ _ => rfl)) (nomark _)) (pe_and (pe_cmpR op_eq (pe_ix ix_tup (pv 3) pe_int (fun _ _ => rfl)) pe_int (nomark _)) (pe_one (pe_fn F_share_a_stretch (hr.mono (by decide)) (by rfl) (pa_cons (pe_ix ix_tup (pv 0) (pe_op op_sub pe_int (pv 2)) (fun _ _ => rfl)) (pa_cons (pe_ix ix_tup (pv 1) (pe_op op_sub pe_int (pv 2)) (fun _ _ => rfl)) pa_nil))))))))),?_⟩
    rcases hn with rfl | rfl
    · unfold keepN at q
      rw [if_pos rfl] at q
      refine ⟨_,rfl,_,rfl,u.p,_,_,_,rfl,rfl,SqT.of pu.p_,rfl,?_⟩
      unfold keepX at q
      refine ⟨_,rfl,_,rfl,_,rfl,v.p,_,_,_,rfl,rfl,SqT.of qv.p_,rfl,u.x,v.x,[u.a,u.b],[v.a,v.b],rfl,rfl,SqT.of pu.x_,SqT.of qv.x_,_,rfl,?_⟩
      rw [if_neg (show ¬ (false = true) by decide)]
      refine ite3 (fun h1 => ?_) (fun h1 => ?_)
      · rw [h1,Bool.true_and] at q
        refine ⟨_,rfl,u.x,_,_,_,rfl,rfl,SqT.of pu.x_,rfl,rfl,_,rfl,?_⟩
        rw [di]
        refine ite3 (fun h2 => ?_) (fun h2 => ?_)
        · rw [h2,Bool.true_and] at q
          exact ⟨_,rfl,_,rfl,_,_,rfl,rfl,u.p,_,_,_,rfl,rfl,SqT.of pu.p_,rfl,_,rfl,_,rfl,_,_,rfl,rfl,v.p,_,_,_,rfl,rfl,SqT.of qv.p_,rfl,u.y,v.y,_,_,_,_,rfl,pu.y_,qv.y_,pu.sy,qv.sy,q⟩
        · have y := q H (Same.refl _)
          rw [h2,Bool.false_and] at y
          exact y
      · have y := q H (Same.refl _)
        rw [h1,Bool.false_and] at y
        exact y
    · unfold keepN at q
      rw [if_neg (show ¬ (1 : Int) = 0 by decide)] at q
      refine ⟨_,rfl,_,rfl,u.p,_,_,_,rfl,rfl,SqT.of pu.p_,rfl,?_⟩
      unfold keepY at q
      refine ⟨_,rfl,_,rfl,_,rfl,v.p,_,_,_,rfl,rfl,SqT.of qv.p_,rfl,u.y,v.y,[u.c,u.d],[v.c,v.d],rfl,rfl,SqT.of pu.y_,SqT.of qv.y_,_,rfl,?_⟩
      rw [if_neg (show ¬ (false = true) by decide)]
      refine ite3 (fun h1 => ?_) (fun h1 => ?_)
      · rw [h1,Bool.true_and] at q
        refine ⟨_,rfl,u.y,_,_,_,rfl,rfl,SqT.of pu.y_,rfl,rfl,_,rfl,?_⟩
        rw [di]
        refine ite3 (fun h2 => ?_) (fun h2 => ?_)
        · rw [h2,Bool.true_and] at q
          exact ⟨_,rfl,_,rfl,_,_,rfl,rfl,u.p,_,_,_,rfl,rfl,SqT.of pu.p_,rfl,_,rfl,_,rfl,_,_,rfl,rfl,v.p,_,_,_,rfl,rfl,SqT.of qv.p_,rfl,u.x,v.x,_,_,_,_,rfl,pu.x_,qv.x_,pu.sx,qv.sx,q⟩
        · have y := q H (Same.refl _)
          rw [h2,Bool.false_and] at y
          exact y
      · have y := q H (Same.refl _)
        rw [h1,Bool.false_and] at y
        exact y
theorem S_slides : FnScope ["begin","end"] ["begin","end"] (defScope (top 56)) := ⟨rfl,rfl,rfl,by decide +kernel,rfl,by decide +kernel,by decide +kernel⟩
theorem fn_slides (D_slides : Df K mg "slides" (top 56)) (F_keeps_corner : Fn P w K mg base "keeps_corner" ["begin","end","number"] 4 spKeep) : Fn P w K mg base "slides" ["begin","end"] 5 (spTwo slideB) := by
  refine D_slides.fn S_slides (fun _ _ _ _ _ _ us hl => by obtain ⟨_,_,rfl⟩ := len2 hl; rfl) (fun vs H Q E h => ?_) (fun f cdv A outer s H vs Q E hr h => ?_)
  · obtain ⟨u,v,rfl,_⟩ := h
    rfl
  · obtain ⟨u,v,rfl,pu,qv,q⟩ := h
    refine ⟨_,(pss_one (ps_ret (pe_or (pe_fn F_keeps_corner (hr.mono (by decide)) (by rfl) (pa_cons (pv 0) (pa_cons (pv 1) (pa_cons pe_int pa_nil)))) (pe_one (pe_fn F_keeps_corner (hr.mono (by decide)) (by rfl) (pa_cons (pv 0) (pa_cons (pv 1) (pa_cons pe_int pa_nil)))))))),?_⟩
    unfold slideB at q
    refine ⟨_,rfl,_,rfl,u,v,0,rfl,.inl rfl,pu,qv,fun H1 s1 => ⟨_,rfl,?_⟩⟩
    rw [show keepN 0 u v = keepX u v from rfl]
    refine ite3 (fun h1 => ?_) (fun h1 => ?_)
    · have y := q H1 s1
      rw [h1,Bool.true_or] at y
      exact y
    · rw [h1,Bool.false_or] at q
      exact ⟨_,rfl,_,rfl,u,v,1,rfl,.inr rfl,pu.t s1.t,qv.t s1.t,fun H2 s2 => q H2 (s1.trans s2)⟩
theorem S_has_whole_places : FnScope ["pair"] ["pair"] (defScope (top 57)) := ⟨rfl,rfl,rfl,by decide +kernel,rfl,by decide +kernel,by decide +kernel⟩
theorem fn_has_whole_places (D_has_whole_places : Df K mg "has_whole_places" (top 57)) : Fn P w K mg base "has_whole_places" ["pair"] 1 spWhl := by
  refine D_has_whole_places.fn S_has_whole_places (fun _ _ _ _ _ _ us hl => by obtain ⟨_,rfl⟩ := len1 hl; rfl) (fun vs H Q E h => ?_) (fun f cdv A outer s H vs Q E hr h => ?_)
  · obtain ⟨u,rfl,_⟩ := h
    rfl
  · obtain ⟨u,rfl,pu,q⟩ := h
    refine ⟨_,(pss_one (ps_ret (pe_and (pe_cmpR op_eq (pe_ix ix_tup (pe_ix ix_tup (pv 0) pe_int (fun _ _ => rfl)) pe_int (fun _ _ => rfl)) pe_int (nomark _)) (pe_one (pe_cmpR op_eq (pe_ix ix_tup (pe_ix ix_tup (pv 0) pe_int (fun _ _ => rfl)) pe_int (fun _ _ => rfl)) pe_int (nomark _)))))),?_⟩
    unfold wholeB at q
    refine ⟨_,rfl,u.p,_,_,_,rfl,rfl,SqT.of pu.p_,rfl,u.x,_,_,_,rfl,rfl,SqT.of pu.x_,rfl,rfl,_,rfl,?_⟩
    rw [di]
    refine ite3 (fun h1 => ?_) (fun h1 => ?_)
    · rw [h1,Bool.true_and,← di] at q
      exact ⟨_,rfl,u.p,_,_,_,rfl,rfl,SqT.of pu.p_,rfl,u.y,_,_,_,rfl,rfl,SqT.of pu.y_,rfl,rfl,q⟩
    · rw [h1,Bool.false_and] at q
      exact q
theorem S_hops_aside : FnScope ["begin","end","rise","fall"] ["begin","end"] (defScope (top 58)) := ⟨rfl,rfl,rfl,by decide +kernel,rfl,by decide +kernel,by decide +kernel⟩
theorem fn_hops_aside (D_hops_aside : Df K mg "hops_aside" (top 58)) : Fn P w K mg base "hops_aside" ["begin","end"] 1 (spTwo asideB) := by
  refine D_hops_aside.fn S_hops_aside (fun _ _ _ _ _ _ us hl => by obtain ⟨_,_,rfl⟩ := len2 hl; rfl) (fun vs H Q E h => ?_) (fun f cdv A outer s H vs Q E hr h => ?_)
  · obtain ⟨u,v,rfl,_⟩ := h
    rfl
  · obtain ⟨u,v,rfl,pu,qv,q⟩ := h
    refine ⟨_,(pss_cons (ps_set (i := 2) S_hops_aside.nd rfl (Or.inl rfl) (pe_op op_sub (pe_ix ix_tup (pe_ix ix_tup (pv 1) pe_int (fun _ _ => rfl)) pe_int (fun _ _ => rfl)) (pe_ix ix_tup (pe_ix ix_tup (pv 0) pe_int (fun _ _ => rfl)) pe_int (fun _ _ => rfl)))) (pss_cons (ps_set (i := 3) S_hops_aside.nd rfl (Or.inl rfl) (pe_op op_sub (pe_ix ix_tup (pe_ix ix_tup (pv 0) pe_int (fun _ _ => rfl)) pe_int (fun _ _ => rfl)) (pe_ix ix_tup (pe_ix ix_tup (pv 1) pe_int (fun _ _ => rfl)) pe_int (fun _ _ => rfl)))) (pss_one (ps_ret (pe_or (pe_and (pe_cmpR op_le (pv 2) pe_int (nomark _)) (pe_one (pe_cmpR op_le (pv 3) pe_int (nomark _)))) (pe_one (pe_and (pe_cmpR op_le (pv 2) pe_int (nomark _)) (pe_one (pe_cmpR op_le (pv 3) pe_int (nomark _)))))))))),?_⟩
    have q := q H (Same.refl _)
    unfold asideB at q
    have P1 := SqT.of (K := K) pu.p_
    have P2 := SqT.of (K := K) qv.p_
    refine ⟨_,rfl,v.p,_,_,_,rfl,rfl,P2,rfl,v.x,_,_,_,rfl,rfl,SqT.of qv.x_,rfl,_,rfl,u.p,_,_,_,rfl,rfl,P1,rfl,u.x,_,_,_,rfl,rfl,SqT.of pu.x_,rfl,_,_,rfl,rfl,?_⟩
    refine ⟨_,rfl,u.p,_,_,_,rfl,rfl,P1,rfl,u.y,_,_,_,rfl,rfl,SqT.of pu.y_,rfl,_,rfl,v.p,_,_,_,rfl,rfl,P2,rfl,v.y,_,_,_,rfl,rfl,SqT.of qv.y_,rfl,_,_,rfl,rfl,?_⟩
    have tl : (decide (v.a - u.a ≤ 0) && decide (u.c - v.c ≤ 1)) = false → Q (.bl (decide (v.a - u.a ≤ 1) && decide (u.c - v.c ≤ 0))) H := fun e => by rw [e,Bool.false_or] at q; exact q
    refine ⟨_,rfl,_,_,rfl,rfl,_,rfl,ite3 (fun h1 => ?_) (fun h1 => ?_)⟩
    · refine ⟨_,rfl,_,_,rfl,rfl,_,rfl,ite3 (fun h2 => ?_) (fun h2 => ?_)⟩
      · rw [h1,h2] at q
        exact q
      · have t := tl (by rw [h1,h2]; rfl)
        refine ⟨_,rfl,_,_,rfl,rfl,_,rfl,ite3 (fun h3 => ?_) (fun h3 => ?_)⟩
        · rw [h3,Bool.true_and] at t
          exact ⟨_,rfl,_,_,rfl,rfl,t⟩
        · rw [h3,Bool.false_and] at t
          exact t
    · have t := tl (by rw [h1]; rfl)
      refine ⟨_,rfl,iteF ?_⟩
      refine ⟨_,rfl,_,_,rfl,rfl,_,rfl,ite3 (fun h3 => ?_) (fun h3 => ?_)⟩
      · rw [h3,Bool.true_and] at t
        exact ⟨_,rfl,_,_,rfl,rfl,t⟩
      · rw [h3,Bool.false_and] at t
        exact t
theorem S_may_step_fences : FnScope ["begin","end","way"] ["begin","end","way"] (defScope (top 59)) := ⟨rfl,rfl,rfl,by decide +kernel,rfl,by decide +kernel,by decide +kernel⟩
theorem fn_may_step_fences (D_may_step_fences : DfA K mg "may_step_fences" "may_step" (top 59)) (F_hops_aside : Fn P w K mg base "hops_aside" ["begin","end"] 1 (spTwo asideB)) (F_slides : Fn P w K mg base "slides" ["begin","end"] 5 (spTwo slideB)) (F_steps_back : Fn P w K mg base "steps_back" ["begin","end"] 2 (spTwo backB)) : Fn P w K mg base "may_step_fences" ["begin","end","way"] 6 spMayF := by
  refine D_may_step_fences.fn S_may_step_fences (fun _ _ _ _ _ _ us hl => by obtain ⟨_,_,_,rfl⟩ := len3 hl; rfl) (fun vs H Q E h => ?_) (fun f cdv A outer s H vs Q E hr h => ?_)
  · obtain ⟨u,v,wy,rfl,_⟩ := h
    rfl
  · obtain ⟨u,v,wy,rfl,pu,qv,k⟩ := h
    refine ⟨_,(pss_cons (ps_if (pt_cmpR op_eq (pv 2) pe_str (nomark _)) (pss_one (ps_ret (pe_fn F_hops_aside (hr.mono (by decide)) (by rfl) (pa_cons (pv 0) (pa_cons (pv 1) pa_nil))))) pss_nil) (pss_cons (ps_if (pt_cmpR op_eq (pv 2) pe_str (nomark _)) (pss_one (ps_ret (pe_fn F_slides (hr.mono (by decide)) (by rfl) (pa_cons (pv 0) (pa_cons (pv 1) pa_nil))))) pss_nil) (pss_one (ps_ret (pe_or (pe_fn F_steps_back (hr.mono (by decide)) (by rfl) (pa_cons (pv 0) (pa_cons (pv 1) pa_nil))) (pe_one (pe_fn F_slides (hr.mono (by decide)) (by rfl) (pa_cons (pv 0) (pa_cons (pv 1) pa_nil))))))))),?_⟩
    unfold mayB at k
    refine ⟨_,rfl,rfl,_,rfl,ite3 (fun h1 => ?_) (fun h1 => ?_)⟩
    · rw [if_pos (show wy = wHops from dec_t (ds h1))] at k
      exact ⟨_,rfl,_,rfl,u,v,rfl,pu,qv,k⟩
    rw [if_neg (show ¬ wy = wHops from dec_f (ds h1))] at k
    refine ⟨_,rfl,rfl,_,rfl,ite3 (fun h2 => ?_) (fun h2 => ?_)⟩
    · rw [if_pos (show wy = wFree from dec_t (ds h2))] at k
      exact ⟨_,rfl,_,rfl,u,v,rfl,pu,qv,k⟩
    rw [if_neg (show ¬ wy = wFree from dec_f (ds h2))] at k
    refine ⟨_,rfl,_,rfl,u,v,rfl,pu,qv,fun H1 s1 => ⟨_,rfl,ite3 (fun h3 => ?_) (fun h3 => ?_)⟩⟩
    · have y := k H1 s1
      rw [h3,Bool.true_or] at y
      exact y
    · rw [h3,Bool.false_or] at k
      exact ⟨_,rfl,_,rfl,u,v,rfl,pu.t s1.t,qv.t s1.t,fun H2 s2 => k H2 (s1.trans s2)⟩
def notComp (s : Stmt) : Expr := match s with
  | .If (.BoolOp _ [_,.UnaryOp _ e _] _) _ _ _ => e
  | _ => .Name "" ⟨0,0,0,0⟩
def pr0 : Pr := ⟨0,0,0,0,0,0,0⟩
def mays (wy : Str) (ps : List Pr) : List Bool := (List.range (ps.length - 1)).map fun i => mayB wy (ps.getD i pr0) (ps.getD (i + 1) pr0)
theorem mays_all (wy : Str) (ps : List Pr) : (mays wy ps).all id = fstepsB wy ps := by
  rw [Bool.eq_iff_iff,List.all_eq_true,fsteps_iff]
  unfold mays
  constructor
  · intro h j u v eu ev
    have hj := (List.getElem?_eq_some_iff.mp ev).1
    have z := h _ (List.mem_map.mpr ⟨j,List.mem_range.mpr (by omega),rfl⟩)
    rw [List.getD_eq_getElem?_getD,List.getD_eq_getElem?_getD,eu,ev] at z
    exact z
  · intro h x hx
    obtain ⟨j,hj,rfl⟩ := List.mem_map.mp hx
    have hj := List.mem_range.mp hj
    have eu : ps[j]? = some ps[j] := List.getElem?_eq_getElem (by omega)
    have ev : ps[j + 1]? = some ps[j + 1] := List.getElem?_eq_getElem (by omega)
    rw [List.getD_eq_getElem?_getD,List.getD_eq_getElem?_getD,eu,ev]
    exact h j _ _ eu ev
theorem cut_prs (ps : List Pr) : cutV (prs ps) (some 1) none = prs (ps.drop 1) := by
  unfold cutV prs
  rw [show (1 : Int) = ((1 : Nat) : Int) from rfl,HT.sIx_nat,HT.sIx_none,List.length_map,← List.map_drop]
  by_cases h : 1 ≤ ps.length
  · rw [Nat.min_eq_left h,List.take_of_length_le (by rw [List.length_map,List.length_drop]; exact Nat.le_refl _)]
  · have e0 : ps = [] := List.length_eq_zero_iff.mp (by omega)
    subst e0
    rfl
theorem S_has_right_steps_fences : FnScope ["fence","way"] ["fence","way"] (defScope (top 61)) := ⟨rfl,rfl,rfl,by decide +kernel,rfl,by decide +kernel,by decide +kernel⟩
theorem fn_has_right_steps_fences (D_has_right_steps_fences : DfA K mg "has_right_steps_fences" "has_right_steps" (top 61)) (F_may_step_fences : Fn P w K mg base "may_step_fences" ["begin","end","way"] 6 spMayF) (T : Txt mg) : Fn P w K mg base "has_right_steps_fences" ["fence","way"] 7 spFSteps := by
  refine D_has_right_steps_fences.fn S_has_right_steps_fences (fun _ _ _ _ _ _ us hl => by obtain ⟨_,_,rfl⟩ := len2 hl; rfl) (fun vs H Q E h => ?_) (fun f cdv A outer s H vs Q E hr h => ?_)
  · obtain ⟨l,ps,wy,rfl,_⟩ := h
    rfl
  · obtain ⟨l,ps,wy,rfl,PP,hlen,k⟩ := h
    have CM2 : CompM (cxOf CX0 P w K mg base ["fence","way"] "has_right_steps" (defScope (top 61)) f cdv A outer s H E).nox (Sp7.retScope ((defBody (top 61)).getD 0 (.Pass ⟨0,0,0,0⟩))) [("way",s.heap.objs.size + 1)] ["begin","end"] [("way",1)] :=
      ⟨by rfl,rfl,by decide +kernel,by decide +kernel,(fun x hx => by simp only [List.mem_cons,List.not_mem_nil,or_false] at hx; rcases hx with rfl | rfl <;> rfl),(fun p hp => by simp only [List.mem_cons,List.not_mem_nil,or_false] at hp; subst hp; rfl),by rfl,by decide +kernel,(fun p hp => by simp only [List.mem_cons,List.not_mem_nil,or_false] at hp; subst hp; exact ⟨rfl,rfl,.inr (.inl rfl),rfl,rfl⟩),⟨rfl,rfl⟩,rfl⟩
    refine ⟨_,(pss_one (ps_ret (pe_callB (call_all rfl) (by rfl) T.z_all bt_all (pa_cons (pe_compG rfl CM2 (pi_zip rfl T.z_zip (pa_cons (pv 0) (pa_cons (pe_slice sl_listA (pv 0) (po_some pe_int) po_none) pa_nil))) (fun fp s₀ H₀ => (pg_tupK (K := K) (n := 2) rfl rfl (pgs_cons (pg_name (i := 0) CM2.nd rfl (Or.inl rfl) (Or.inr rfl)) (pgs_cons (pg_name (i := 1) CM2.nd rfl (Or.inl rfl) (Or.inr rfl)) pgs_nil)))) (fun fp s₀ H₀ => pts_nil) (fun fp s₀ H₀ => (pe_fn F_may_step_fences (hr.mono (by decide)) (by rfl) (pa_cons (pv 0) (pa_cons (pv 1) (pa_cons (pv 2) pa_nil)))))) pa_nil)))),?_⟩
    refine ⟨_,rfl,_,rfl,_,rfl,l,_,rfl,SqL.of PP.lst,fun l2 H1 s1 f1 n1 => ?_⟩
    rw [cut_prs] at f1
    have P1 := PP.mono s1
    have lmin : min (prs ps).length (prs (ps.drop 1)).length = ps.length - 1 := by rw [prs_len,prs_len,List.length_drop]; omega
    refine ⟨l,l2,rfl,⟨_,SqL.of P1.lst⟩,⟨_,SqL.of f1⟩,comp_zipR (K := K) (k := 2) (SqL.of P1.lst) (SqL.of f1) (by rw [lmin]; omega) (fun i v _ => v = .bl (mayB wy (ps.getD i pr0) (ps.getD (i + 1) pr0))) (fun _ _ _ _ _ h => h) ?_ ?_⟩
    · intro i x y p H2 τ Kc hx hy s2 ep hτ kk
      obtain ⟨τ0,τ1,rfl⟩ : ∃ τ0 τ1,τ = [τ0,τ1] := by
        match τ,hτ with
        | [a,b],_ => exact ⟨a,b,rfl⟩
      obtain ⟨u,hu,rfl⟩ := prs_get hx
      obtain ⟨v,hv,rfl⟩ := prs_get hy
      have hv' : ps[i + 1]? = some v := by rw [List.getElem?_drop] at hv; rw [Nat.add_comm]; exact hv
      have qu := (P1.pr u (List.mem_of_getElem? hu)).t s2.t
      have qv := (P1.pr v (List.mem_of_getElem? hv')).t s2.t
      refine ⟨p,_,rfl,SqT.of ep,rfl,_,_,rfl,_,_,rfl,rfl,⟨[some (.ref u.p),some (.ref v.p)],rfl,rfl⟩,?_⟩
      refine ⟨_,rfl,_,rfl,_,rfl,u,v,wy,rfl,qu,qv,fun H4 s4 => kk _ H4 s4 ?_⟩
      rw [List.getD_eq_getElem?_getD,List.getD_eq_getElem?_getD,hu,hv']
      rfl
    · intro l3 zs H2 nl s2 f2 hl hr
      have ey : zs = (mays wy ps).map V.bl := by
        rw [lmin] at hl
        refine List.ext_getElem? fun i => ?_
        unfold mays
        by_cases hi : i < ps.length - 1
        · have h1 : zs[i]? = some zs[i] := List.getElem?_eq_getElem (by omega)
          rw [h1,hr i _ h1,List.getElem?_map,List.getElem?_map,List.getElem?_range hi]
          rfl
        · rw [List.getElem?_eq_none (by omega),List.getElem?_eq_none (by simp; omega)]
      rw [ey] at f2
      refine ⟨l3,mays wy ps,rfl,SqL.of f2,?_⟩
      rw [mays_all]
      exact k H2 (s1.trans s2)
theorem S_is_fence : FnScope ["one","other","thing","way"] ["one","other","thing","way"] (defScope (top 63)) := ⟨rfl,rfl,rfl,by decide +kernel,rfl,by decide +kernel,by decide +kernel⟩
theorem fn_is_fence {C : Addr} (D_is_fence : DfD K mg "is_fence" (top 63) [.str "on"]) (F_look_at_way : Fx P w K mg base "look_at_way" ["way"] 1 [] (spWayS C)) (F_are_pairs : Fn P w K mg base "are_pairs" ["one","other","thing"] 5 spPairs) (F_has_whole_places : Fn P w K mg base "has_whole_places" ["pair"] 1 spWhl) (F_has_right_ends_fences : Fn P w K mg base "has_right_ends_fences" ["one","other","fence","way"] 2 spFEnds) (F_has_right_steps_fences : Fn P w K mg base "has_right_steps_fences" ["fence","way"] 7 spFSteps) (T : Txt mg) : Fx P w K mg base "is_fence" ["one","other","thing","way"] 8 [.str "on"] (spIsFence C) := by
  refine D_is_fence.fx S_is_fence (fun T kV doc pm an cdv ct us its oT n s hv hl ho hs => ?_) (fun T kV doc pm an cdv ct us its oT n s hv hl ho hs => ?_) (fun vs H Q E h => ?_) (fun f cdv A outer s H vs Q E hr h => ?_)
  · obtain ⟨u,rfl,_⟩ := vals1 hv
    match us,hl with
    | [_,_,_,_],_ => exact BindsTo.of_defaults rfl ho hs rfl rfl
  · obtain ⟨u,rfl,_⟩ := vals1 hv
    have hl1 : us.length = 3 := by simpa using hl
    match us,hl1 with
    | [_,_,_],_ => exact BindsTo.of_defaults rfl ho hs rfl rfl
  · obtain ⟨l1,l2,xs1,xs2,v,x,t,rfl,_⟩ := h
    rfl
  · obtain ⟨l1,l2,xs1,xs2,v,x,t,rfl,⟨e1,n1⟩,⟨e2,n2⟩,pt,kn,h⟩ := h
    have CN : CompN (cxOf (CXE P w) P w K mg base ["one","other","thing","way"] "is_fence" (defScope (top 63)) f cdv A outer s H E) (Dr.compScope (notComp ((defBody (top 63)).getD 2 (.Pass ⟨0,0,0,0⟩)))) [] "pair" [] :=
      ⟨by rfl,rfl,by decide +kernel,by decide +kernel,rfl,(fun p hp => nomatch hp),by rfl,by decide +kernel,(fun p hp => nomatch hp),⟨rfl,rfl⟩,rfl⟩
    refine ⟨_,(pss_cons (ps_expr (pe_fx F_look_at_way (hr.mono (by decide)) (by rfl) (pa_cons (pv 3) pa_nil))) (pss_cons (ps_if (pt_not (pt_val (pe_fn F_are_pairs (hr.mono (by decide)) (by rfl) (pa_cons (pv 0) (pa_cons (pv 1) (pa_cons (pv 2) pa_nil)))))) (pss_one (ps_ret pe_bl)) pss_nil) (pss_cons (ps_if (pw_and (pt_cmpR op_eq (pv 3) pe_str (nomark _)) (pw_and1 (pt_not (pt_val (pe_callB (call_all rfl) (by rfl) T.z_all bt_all (pa_cons (pe_compA rfl CN (pi_list (pv 2)) (fun fp s₀ H₀ => (pe_fn F_has_whole_places (hr.mono (by decide)) (by rfl) (pa_cons (pv 0) pa_nil)))) pa_nil)))))).pt (pss_one (ps_ret pe_bl)) pss_nil) (pss_one (ps_ret (pe_and (pe_fn F_has_right_ends_fences (hr.mono (by decide)) (by rfl) (pa_cons (pv 0) (pa_cons (pv 1) (pa_cons (pv 2) (pa_cons (pv 3) pa_nil))))) (pe_one (pe_fn F_has_right_steps_fences (hr.mono (by decide)) (by rfl) (pa_cons (pv 2) (pa_cons (pv 3) pa_nil)))))))))),?_⟩
    rcases h with ⟨wy,rfl,hw,q⟩ | ⟨hn,hE⟩
    · refine ⟨_,rfl,_,_,rfl,kn,.inl ⟨wy,rfl,hw,?_⟩⟩
      refine ⟨_,rfl,_,rfl,_,rfl,l1,l2,xs1,xs2,v,rfl,⟨e1,n1⟩,⟨e2,n2⟩,pt,fun H1 s1 => ⟨_,rfl,ite3 (fun h1 => ?_) (fun h1 => ?_)⟩⟩
      · exact q false H1 s1 (.inl ⟨by simpa using h1,rfl⟩)
      have h1 : pairsV ((xs1.length : Int) - 1) ((xs2.length : Int) - 1) H v = true := by simpa using h1
      obtain ⟨l,ps,rfl,PP,hne,hin,hlen⟩ := pairsV_inv pt h1
      match ps,hne,PP,hin,hlen with
      | f :: r,_,PP,hin,hlen =>
      refine ⟨_,rfl,rfl,_,rfl,ite3 (fun c1 => ?_) (fun c1 => ?_)⟩
      · have ew : wy = wHops := dec_t (ds c1)
        have P1 := PP.mono s1
        refine ⟨_,rfl,l,rfl,⟨_,SqL.of P1.lst⟩,comp_R (SqL.of P1.lst) (by rw [prs_len]; omega) (fun i v' _ => v' = .bl (wholeB ((f :: r).getD i pr0))) (fun _ _ _ _ _ h => h) ?_ ?_⟩
        · intro i x H2 Kc hx s2 kk
          obtain ⟨u,hu,rfl⟩ := prs_get hx
          refine ⟨_,rfl,u,rfl,(P1.pr u (List.mem_of_getElem? hu)).t s2.t,kk _ _ (Same.refl _) ?_⟩
          rw [List.getD_eq_getElem?_getD,hu]
          rfl
        · intro l3 ys H2 nl s2 f2 hl hr
          have ey : ys = ((f :: r).map wholeB).map V.bl := by
            rw [prs_len] at hl
            refine List.ext_getElem? fun i => ?_
            by_cases hi : i < (f :: r).length
            · have g1 : ys[i]? = some ys[i] := List.getElem?_eq_getElem (by omega)
              rw [g1,hr i _ g1,List.getElem?_map,List.getElem?_map,List.getElem?_eq_getElem hi,List.getD_eq_getElem?_getD,List.getElem?_eq_getElem hi]
              rfl
            · rw [List.getElem?_eq_none (by omega),List.getElem?_eq_none (by simp at hi ⊢; omega)]
          rw [ey] at f2
          refine ⟨l3,(f :: r).map wholeB,rfl,SqL.of f2,_,rfl,?_⟩
          rw [List.all_map]
          have S2 := s1.trans s2
          refine ite3 (fun c2 => ?_) (fun c2 => ?_)
          · have c2 : (f :: r).all (id ∘ wholeB) = false := by simpa only [Bool.not_eq_true'] using c2
            have c2 : (f :: r).all wholeB = false := c2
            refine q false H2 S2 (.inr ⟨l,f :: r,rfl,PP,?_⟩)
            rw [fenceB_cons,hin,if_pos ew,c2]
            rfl
          · have c2 : (f :: r).all (id ∘ wholeB) = true := by simpa only [Bool.not_eq_false'] using c2
            have c2 : (f :: r).all wholeB = true := c2
            have E3 : (if wy = wHops then (f :: r).all wholeB else true) = true := by rw [if_pos ew,c2]
            refine ⟨_,rfl,_,rfl,_,rfl,_,rfl,l1,l2,l,xs1,xs2,f,r,wy,rfl,S2 _ _ e1,S2 _ _ e2,PP.mono S2,fun H5 s5 => ⟨_,rfl,ite3 (fun h2 => ?_) (fun h2 => ?_)⟩⟩
            · refine ⟨_,rfl,_,rfl,l,f :: r,wy,rfl,(PP.mono S2).mono s5,hlen,fun H6 s6 => q _ H6 (S2.trans (s5.trans s6)) (.inr ⟨l,f :: r,rfl,PP,?_⟩)⟩
              rw [fenceB_cons,hin,E3,h2]
              rfl
            · refine q _ H5 (S2.trans s5) (.inr ⟨l,f :: r,rfl,PP,?_⟩)
              rw [fenceB_cons,hin,E3,h2]
              rfl
      · have ew : ¬ wy = wHops := dec_f (ds c1)
        have E3 : (if wy = wHops then (f :: r).all wholeB else true) = true := by rw [if_neg ew]
        refine ⟨_,rfl,_,rfl,_,rfl,_,rfl,l1,l2,l,xs1,xs2,f,r,wy,rfl,s1 _ _ e1,s1 _ _ e2,PP.mono s1,fun H5 s5 => ⟨_,rfl,ite3 (fun h2 => ?_) (fun h2 => ?_)⟩⟩
        · refine ⟨_,rfl,_,rfl,l,f :: r,wy,rfl,(PP.mono s1).mono s5,hlen,fun H6 s6 => q _ H6 (s1.trans (s5.trans s6)) (.inr ⟨l,f :: r,rfl,PP,?_⟩)⟩
          rw [fenceB_cons,hin,E3,h2]
          rfl
        · refine q _ H5 (s1.trans s5) (.inr ⟨l,f :: r,rfl,PP,?_⟩)
          rw [fenceB_cons,hin,E3,h2]
          rfl
    · exact ⟨_,rfl,_,_,rfl,kn,.inr ⟨hn,hE⟩⟩
theorem gcd_step' {a b : Int} (hb : 0 < b) : Int.gcd b (a % b) = Int.gcd a b := by
  have e : a = a % b + a / b * b := by
    have := Int.emod_add_mul_ediv a b
    rw [Int.mul_comm] at this
    omega
  have h := Int.gcd_add_mul_right_right b (a % b) (a / b)
  rw [← e] at h
  rw [Int.gcd_comm a b,h]
inductive spDiv (vs : List V) (H : Hp) (Q : VK) (x_3 : XK) : Prop
  | mk : ∀ a b : Int,(vs = [.int a,.int b]) → (0 ≤ b) → (Q (.int (Int.gcd a b : Int)) H) → spDiv vs H Q x_3
inductive spLRat (vs : List V) (H : Hp) (Q : VK) (x_3 : XK) : Prop
  | mk : ∀ a b : Int,(vs = [.int a,.int b]) → ((0 < b ∧ bits b ≤ 2000)) → (∀ (p : Addr) (t u : Int) (H' : Hp),Frac a b t u → t = a / (Int.gcd a b : Int) → u = b / (Int.gcd a b : Int) → Same H H' → H' p = some (.tup [.int t,.int u]) → H p = none → Q (.ref p) H') → spLRat vs H Q x_3
inductive spSpot (vs : List V) (H : Hp) (Q : VK) (x_3 : XK) : Prop
  | mk : ∀ (p : Addr) (n k : Int),(vs = [.ref p,.int n]) → (Pot H p k) → (k ≤ 800000) → ((0 ≤ n ∧ n ≤ 100)) → (∀ (z : Addr) (t b : Int) (H' : Hp),Low t b → n * b ≤ t → t ≤ (n + 1) * b → bits t ≤ 200 → bits b ≤ 60 → But p H H' → H' z = some (.tup [.int t,.int b]) → Pot H' p (k + 10) → Q (.ref z) H') → spSpot vs H Q x_3
structure Dp (H : Hp) (z : Addr) (t b n : Int) (w : Str) : Prop where
  at_ : H z = some (.tup [.int t,.int b])
  low : Low t b
  n0 : 0 ≤ t
  n1 : t ≤ n * b
  bt : bits t ≤ 200
  bb : bits b ≤ 60
  hop : w = wHops → b = 1
theorem Dp.t' {H H' : Hp} {z : Addr} {t b n : Int} {w : Str} (d : Dp H z t b n w) (s : SameT H H') : Dp H' z t b n w := ⟨s _ _ d.at_,d.low,d.n0,d.n1,d.bt,d.bb,d.hop⟩
inductive spAny (vs : List V) (H : Hp) (Q : VK) (x_3 : XK) : Prop
  | mk : ∀ (p : Addr) (n k : Int) (w : Str),(vs = [.ref p,.int n,.str w]) → (Pot H p k) → (k ≤ 700000) → ((0 ≤ n ∧ n ≤ 50)) → (∀ (z : Addr) (t b : Int) (H' : Hp),Dp H' z t b n w → But p H H' → Pot H' p (k + 20) → Q (.ref z) H') → spAny vs H Q x_3
inductive spAhead (vs : List V) (H : Hp) (Q : VK) (x_3 : XK) : Prop
  | mk : ∀ (p z0 : Addr) (t0 b0 n k : Int) (w : Str),(vs = [.ref p,.ref z0,.int n,.str w]) → (Pot H p k) → (k ≤ 700000) → ((0 ≤ n ∧ n ≤ 50)) → (Dp H z0 t0 b0 n w) → (∀ (z : Addr) (t b : Int) (H' : Hp),Dp H' z t b n w → goB w t0 b0 t b = true → But p H H' → Pot H' p (k + 20) → Q (.ref z) H') → spAhead vs H Q x_3
def homeT (t b n : Int) : Int := if t / b + 1 < n then t / b + 1 else n
inductive spHome (vs : List V) (H : Hp) (Q : VK) (x_3 : XK) : Prop
  | mk : ∀ (z0 : Addr) (t0 b0 n : Int) (w : Str),(vs = [.ref z0,.int n]) → ((0 ≤ n ∧ n ≤ 50)) → (Dp H z0 t0 b0 n w) → (∀ (z : Addr) (H' : Hp),Dp H' z (homeT t0 b0 n) 1 n w → goB w t0 b0 (homeT t0 b0 n) 1 = true → Same H H' → Q (.ref z) H') → spHome vs H Q x_3
theorem share_of {k a b c d : Int} (hb : 0 < b) (hd : 0 < d) (h1 : k * b ≤ a) (h2 : a ≤ (k + 1) * b) (h3 : k * d ≤ c) (h4 : c ≤ (k + 1) * d) : shareB a b c d = true := by
  unfold shareB
  split
  · have q := fl_ge hd h3
    have q2 : (k + 1) * b ≤ (c / d + 1) * b := Int.mul_le_mul_of_nonneg_right (by omega) (by omega)
    rw [decide_eq_false (by rw [Int.mul_one]; omega)]
    rfl
  · have q := fl_ge hb h1
    have q2 : (k + 1) * d ≤ (a / b + 1) * d := Int.mul_le_mul_of_nonneg_right (by omega) (by omega)
    rw [decide_eq_false (by rw [Int.mul_one]; omega)]
    rfl
theorem go_of {w : Str} {k a b c d : Int} (hb : 0 < b) (hd : 0 < d) (h1 : k * b ≤ a) (h2 : a ≤ (k + 1) * b) (h3 : k * d ≤ c) (h4 : c ≤ (k + 1) * d) (hw : w = wHops → b = 1 ∧ d = 1 ∧ (c - a = 0 ∨ c - a = 1)) (hf : w ≠ wFree → ¬ c * b < a * d) : goB w a b c d = true := by
  unfold goB
  split
  · rename_i h
    obtain ⟨e1,e2,e3⟩ := hw h
    rw [decide_eq_true e1,decide_eq_true e2,Bool.true_and,Bool.true_and,Bool.or_eq_true,decide_eq_true_eq,decide_eq_true_eq]
    exact e3
  · split
    · exact share_of hb hd h1 h2 h3 h4
    · rename_i h
      rw [decide_eq_false (hf h),share_of hb hd h1 h2 h3 h4]
      rfl
theorem go_self {w : Str} {a b : Int} (hb : 0 < b) (hw : w = wHops → b = 1) : goB w a b a b = true :=
  go_of (k := a / b) hb hb (fl_le hb) (by have := fl_lt (a := a) hb; omega) (fl_le hb) (by have := fl_lt (a := a) hb; omega) (fun h => ⟨hw h,hw h,.inl (by omega)⟩) (fun _ => by omega)
theorem fl_le_n {t b n : Int} (hb : 0 < b) (h : t ≤ n * b) : t / b ≤ n := Int.ediv_le_of_le_mul hb h
theorem fl_full {t b n : Int} (h : Low t b) (h1 : t ≤ n * b) (e : t / b = n) : t = n ∧ b = 1 := by
  have hb : 0 < b := h.pos
  have q := fl_le (a := t) hb
  rw [e] at q
  have et : t = n * b := by omega
  have z := low_unique h (⟨by decide,Int.gcd_one⟩ : Low n 1) (by rw [et]; rw [Int.mul_one])
  exact z
theorem homeT_le (t b n : Int) : homeT t b n ≤ n := by unfold homeT; split <;> omega
theorem home_go {w : Str} {t b n : Int} (h : Low t b) (h0 : 0 ≤ t) (h1 : t ≤ n * b) (hw : w = wHops → b = 1) : goB w t b (homeT t b n) 1 = true ∧ 0 ≤ homeT t b n := by
  have hb : 0 < b := h.pos
  have f0 := fl_nn hb h0
  have f1 := fl_le_n hb h1
  have g1 := fl_le (a := t) hb
  have g2 := fl_lt (a := t) hb
  by_cases hlt : t / b + 1 ≤ n
  · have e : homeT t b n = t / b + 1 := by unfold homeT; split <;> omega
    rw [e]
    refine ⟨go_of (k := t / b) hb (by decide) g1 (by omega) (by omega) (by omega) (fun z => ?_) (fun _ => by rw [Int.mul_one]; omega),by omega⟩
    have eb := hw z
    subst eb
    rw [Int.ediv_one]
    exact ⟨rfl,rfl,.inr (by omega)⟩
  · have ef : t / b = n := by omega
    obtain ⟨rfl,rfl⟩ := fl_full h h1 ef
    have e : homeT t 1 t = t := by unfold homeT; rw [Int.ediv_one]; split <;> omega
    rw [e]
    exact ⟨go_self (by decide) (fun _ => rfl),h0⟩
theorem S_law_moved : FnScope ["pot","number"] ["pot","number"] (defScope (top 76)) := ⟨rfl,rfl,rfl,by decide +kernel,rfl,by decide +kernel,by decide +kernel⟩
theorem fn_law_moved (D_law_moved : Df K mg "_law_moved" (top 76)) (F_law_take : Fn P w K mg base "_law_take" ["pot","size"] 1 Dr.spTk) (T : Txt mg) : Fn P w K mg base "_law_moved" ["pot","number"] 2 spMoved := by
  refine D_law_moved.fn S_law_moved (fun _ _ _ _ _ _ us hl => by obtain ⟨_,_,rfl⟩ := len2 hl; rfl) (fun vs H Q E h => ?_) (fun f cdv A outer s H vs Q E hr h => ?_)
  · obtain ⟨p,n,k,rfl,_⟩ := h
    rfl
  · obtain ⟨p,n,k,rfl,pt,hk,q⟩ := h
    refine ⟨_,(pss_one (ps_ret (pe_callB (call_max2 rfl) (by rfl) T.z_max bt_max (pa_cons (pe_op op_sub pe_int (pe_op op_pow pe_int pe_int)) (pa_cons (pe_callB (call_min2 rfl) (by rfl) T.z_min bt_min (pa_cons (pe_op op_sub (pe_op op_pow pe_int pe_int) pe_int) (pa_cons (pe_op op_sub (pe_op op_add (pv 1) (pe_fn F_law_take (hr.mono (by decide)) (by rfl) (pa_cons (pv 0) (pa_cons pe_int pa_nil)))) pe_int) pa_nil))) pa_nil))))),?_⟩
    have e12 : (10 : Int) ^ (12 : Int).toNat = 1000000000000 := by decide +kernel
    refine ⟨_,_,rfl,rfl,⟨by decide,by decide,by decide⟩,_,_,rfl,rfl,_,_,rfl,rfl,⟨by decide,by decide,by decide⟩,_,_,rfl,rfl,_,rfl,_,rfl,p,_,_,rfl,pt,by omega,⟨by decide,by decide⟩,fun r H1 a1 b1 b2 p2 => ?_⟩
    refine ⟨_,_,rfl,rfl,_,_,rfl,rfl,_,_,rfl,_,_,rfl,q _ _ ?_ b2 p2⟩
    show -999999999999 ≤ _ ∧ _ ≤ 999999999999
    rw [e12]
    constructor <;> (split <;> split <;> omega)
theorem S_law_drawn_other : FnScope ["pot","line","way"] ["pot","line"] (defScope (top 77)) := ⟨rfl,rfl,rfl,by decide +kernel,rfl,by decide +kernel,by decide +kernel⟩
theorem fn_law_drawn_other (D_law_drawn_other : Df K mg "_law_drawn_other" (top 77)) (F_law_take : Fn P w K mg base "_law_take" ["pot","size"] 1 Dr.spTk) (F_law_moved : Fn P w K mg base "_law_moved" ["pot","number"] 2 spMoved) (F_law_drawn_line : Fn P w K mg base "_law_drawn_line" ["pot"] 3 Dr.spDLine) (T : Txt mg) : Fn P w K mg base "_law_drawn_other" ["pot","line"] 4 spOther := by
  refine D_law_drawn_other.fn S_law_drawn_other (fun _ _ _ _ _ _ us hl => by obtain ⟨_,_,rfl⟩ := len2 hl; rfl) (fun vs H Q E h => ?_) (fun f cdv A outer s H vs Q E hr h => ?_)
  · obtain ⟨p,l,qs,k,rfl,_⟩ := h
    rfl
  · obtain ⟨p,l,qs,k,rfl,pt,hk,L,⟨hq1,hq10⟩,q⟩ := h
    have CN : CompN (cxOf CX0 P w K mg base ["pot","line","way"] "_law_drawn_other" (defScope (top 77)) f cdv A outer s H E).nox (compScope (retExpr (ifBody ((defBody (top 77)).getD 1 (.Pass ⟨0,0,0,0⟩))))) [("pot",s.heap.objs.size + 1)] "corner" [("pot",0)] :=
      ⟨by rfl,rfl,by decide +kernel,by decide +kernel,rfl,(fun p hp => by rw [List.mem_singleton.mp hp]; rfl),by rfl,by decide +kernel,(fun p hp => by rw [List.mem_singleton.mp hp]; exact ⟨rfl,rfl,.inr (.inl rfl),rfl,rfl⟩),⟨rfl,rfl⟩,rfl⟩
    refine ⟨_,(pss_cons (ps_set (i := 2) S_law_drawn_other.nd rfl (Or.inl rfl) (pe_fn F_law_take (hr.mono (by decide)) (by rfl) (pa_cons (pv 0) (pa_cons pe_int pa_nil)))) (pss_cons (ps_if (pt_cmpR op_eq (pv 2) pe_int (nomark _)) (pss_one (ps_ret (pe_compA rfl CN (pi_list (pv 1)) (fun fp s₀ H₀ => (pe_tupA (pa_cons (pe_fn F_law_moved (hr.mono (by decide)) (by rfl) (pa_cons (pv 1) (pa_cons (pe_ix (ix_tupK (K := K) rfl) (pv 0) pe_int (fun _ _ => rfl)) pa_nil))) (pa_cons (pe_fn F_law_moved (hr.mono (by decide)) (by rfl) (pa_cons (pv 1) (pa_cons (pe_ix (ix_tupK (K := K) rfl) (pv 0) pe_int (fun _ _ => rfl)) pa_nil))) pa_nil))))))) pss_nil) (pss_cons (ps_if (pt_cmpR op_eq (pv 2) pe_int (nomark _)) (pss_one (ps_ret (pe_list_rev rfl rfl T.z_list rfl T.z_reversed (pv 1)))) pss_nil) (pss_one (ps_ret (pe_fn F_law_drawn_line (hr.mono (by decide)) (by rfl) (pa_cons (pv 0) pa_nil))))))),?_⟩
    have npl : l ≠ p := fun z => by
      obtain ⟨x,y,w,ep,_⟩ := pt
      subst z
      have e := L.lst
      rw [ep] at e
      cases qs with
      | nil => exact absurd hq1 (by simp)
      | cons c cs =>
        have e' := congrArg (fun o => match o with | some (HO.lst (V.ref _ :: _)) => true | _ => false) e
        exact absurd e' (by simp)
    have hll : (qs.map fun (q : Addr × Int × Int) => V.ref q.1).length = qs.length := List.length_map _
    refine ⟨_,rfl,p,_,_,rfl,pt,by omega,⟨by decide,by decide⟩,fun r1 H1 _ _ b1 p1 => ?_⟩
    have L1 := L.but b1 pt npl
    refine ⟨_,rfl,rfl,_,rfl,ite3 (fun h1 => ?_) (fun h1 => ?_)⟩
    · refine ⟨_,rfl,l,rfl,⟨_,SqL.of L1.lst⟩,fun r nr => ?_⟩
      have npr := Pot.ne p1 nr
      have nlr : l ≠ r := ne_of_none L1.lst nr
      refine comp_list (K := K) (a := l) (xs := qs.map fun (q : Addr × Int × Int) => V.ref q.1) (l := r) (fv := [("pot",0)]) (σ := [some (.ref p),some (.ref l),some (.int r1)]) (Qp := fun H2 => Q (.ref r) H2) (fun i acc H2 => ∃ rs : Crn,i ≤ qs.length ∧ acc = rs.map (fun z => V.ref z.1) ∧ rs.length = i ∧ (∀ z ∈ rs,H2 z.1 = some (.tup [.int z.2.1,.int z.2.2]) ∧ Sm z.2.1 ∧ Sm z.2.2) ∧ But p H1 H2 ∧ Pot H2 p (k + 1 + 2 * (i : Int)) ∧ H2 r = some (.lst acc))
        ⟨[],Nat.zero_le _,rfl,rfl,(fun z h => nomatch h),But.of (Same.new nr),by simpa using p1.same (Same.new nr),upd_same⟩ ?_ ?_ ?_
      · rintro i acc H2 hi ⟨rs,hi',rfl,hl,_,b2,_,e3⟩
        exact ⟨SqL.of (b2 _ _ npl L1.lst),e3,small1000 (by rw [List.length_map]; omega)⟩
      · rintro i y acc H2 Kc hy ⟨rs,hi,rfl,hl,hrs,b2,p2,e3⟩ kk
        rw [List.getElem?_map] at hy
        obtain ⟨qq,hqi,rfl⟩ := Option.map_eq_some_iff.mp hy
        have hlt : i < qs.length := (List.getElem?_eq_some_iff.mp hqi).1
        have c := b2.t p1 _ _ (L1.crn qq (List.mem_of_getElem? hqi)).1
        refine ⟨_,rfl,_,rfl,qq.1,_,_,_,rfl,rfl,SqT.of c,rfl,p,_,_,rfl,p2,by omega,fun x3 H3 sm3 b3 p3 => ?_⟩
        have c3 := b3.t p2 _ _ c
        refine ⟨_,rfl,_,rfl,qq.1,_,_,_,rfl,rfl,SqT.of c3,rfl,p,_,_,rfl,p3,by omega,fun x4 H4 sm4 b4 p4 => ?_⟩
        refine ⟨sz (by simp),fun pt' H5 s5 f5 n5 => ?_⟩
        have e5 := s5 _ _ (b4 _ _ npr (b3 _ _ npr e3))
        refine kk (.ref pt') H5 e5 ⟨rs ++ [(pt',x3,x4)],hlt,by rw [List.map_append]; rfl,by simp [hl],fun z hz => ?_,fun b o nb e => ?_,?_,upd_same⟩
        · have u := SameT.upd (ys := (rs.map fun z => V.ref z.1) ++ [V.ref pt']) e5
          rcases List.mem_append.mp hz with hz | hz
          · exact ⟨u _ _ (s5 _ _ (b4.t p3 _ _ (b3.t p2 _ _ (hrs z hz).1))),(hrs z hz).2⟩
          · rw [List.mem_singleton.mp hz]
            exact ⟨u _ _ f5,sm3,sm4⟩
        · by_cases hbr : b = r
          · subst hbr
            rw [nr] at e
            cases e
          · rw [upd_ne hbr]
            exact s5 _ _ (b4 b o nb (b3 b o nb (b2 b o nb e)))
        · obtain ⟨x,y,z,ep,rest⟩ := (p4.same s5).mono (k' := k + 1 + 2 * ((i + 1 : Nat) : Int)) (by omega)
          exact ⟨x,y,z,by rw [upd_ne (Ne.symm npr)]; exact ep,rest⟩
      · rintro acc H2 ⟨rs,_,rfl,hl,hrs,b2,p2,e3⟩
        rw [hll] at hl
        exact q r rs H2 ⟨e3,hrs⟩ (by omega) (by omega) (b1.none npr nr) (b1.trans b2)
    · refine ⟨_,rfl,rfl,_,rfl,ite3 (fun h2 => ?_) (fun h2 => ?_)⟩
      · refine ⟨_,rfl,l,_,rfl,SqL.of L1.lst,fun r H2 s2 f2 n2 => ?_⟩
        have npr := Pot.ne p1 n2
        have er : (qs.map fun (q : Addr × Int × Int) => V.ref q.1).reverse = qs.reverse.map fun (q : Addr × Int × Int) => V.ref q.1 := by rw [List.map_reverse]
        rw [er] at f2
        exact q r qs.reverse H2 ⟨f2,fun z hz => ⟨s2 _ _ (L1.crn z (List.mem_reverse.mp hz)).1,(L1.crn z (List.mem_reverse.mp hz)).2⟩⟩ (by rw [List.length_reverse]; exact hq1) (by rw [List.length_reverse]; exact hq10) (b1.none npr n2) (b1.trans (But.of s2))
      · refine ⟨_,rfl,p,_,rfl,p1,by omega,fun r rs H2 L2 h1' h2' n2 b2 p2 => ?_⟩
        have npr := Pot.ne p1 n2
        exact q r rs H2 L2 h1' h2' (b1.none npr n2) (b1.trans b2)
theorem S_law_lines : FnScope ["script","one"] ["script"] (defScope (top 78)) := ⟨rfl,rfl,rfl,by decide +kernel,rfl,by decide +kernel,by decide +kernel⟩
theorem fn_law_lines (D_law_lines : Df K mg "_law_lines" (top 78)) (F_law_cell_at : Fn P w K mg base "_law_cell_at" ["script","k"] 1 (Dr.spCell K)) (F_law_begun : Fn P w K mg base "_law_begun" ["cell"] 1 Dr.spBegun) (F_law_drawn_line : Fn P w K mg base "_law_drawn_line" ["pot"] 3 Dr.spDLine) (F_law_drawn_other : Fn P w K mg base "_law_drawn_other" ["pot","line"] 4 spOther) : Fn P w K mg base "_law_lines" ["script"] 5 (spLines K) := by
  refine D_law_lines.fn S_law_lines (fun _ _ _ _ _ _ us hl => by obtain ⟨_,rfl⟩ := len1 hl; rfl) (fun vs H Q E h => ?_) (fun f cdv A outer s H vs Q E hr h => ?_)
  · obtain ⟨sa,ss,rfl,_⟩ := h
    rfl
  · obtain ⟨sa,ss,rfl,hS,q⟩ := h
    refine ⟨_,(pss_cons (ps_set (i := 1) S_law_lines.nd rfl (Or.inl rfl) (pe_fn F_law_drawn_line (hr.mono (by decide)) (by rfl) (pa_cons (pe_fn F_law_begun (hr.mono (by decide)) (by rfl) (pa_cons (pe_fn F_law_cell_at (hr.mono (by decide)) (by rfl) (pa_cons (pv 0) (pa_cons pe_int pa_nil))) pa_nil)) pa_nil))) (pss_one (ps_ret (pe_tupA (pa_cons (pv 1) (pa_cons (pe_fn F_law_drawn_other (hr.mono (by decide)) (by rfl) (pa_cons (pe_fn F_law_begun (hr.mono (by decide)) (by rfl) (pa_cons (pe_fn F_law_cell_at (hr.mono (by decide)) (by rfl) (pa_cons (pv 0) (pa_cons pe_int pa_nil))) pa_nil)) (pa_cons (pv 1) pa_nil))) pa_nil)))))),?_⟩
    refine ⟨_,rfl,sa,ss,0,rfl,hS,by decide,fun c0 => ?_⟩
    refine ⟨c0,rfl,fun p0 H0 s0 n0 pt0 => ?_⟩
    refine ⟨p0,0,rfl,pt0,by decide,fun l qs H1 L1 h1 h10 nl b1 _ => ?_⟩
    have s1 : Same H H1 := b1.same s0 n0
    refine ⟨_,rfl,_,rfl,sa,ss,1,rfl,s1.seq hS,by decide,fun c1 => ?_⟩
    refine ⟨c1,rfl,fun p2 H2 s2 n2 pt2 => ⟨_,rfl,p2,l,qs,0,rfl,pt2,by decide,L1.mono s2,⟨h1,h10⟩,fun r rs H3 L3 h3 h30 nr b3 => ?_⟩⟩
    have nlp : l ≠ p2 := ne_of_none L1.lst n2
    have s3 : Same H1 H3 := b3.same s2 n2
    have L3' : LineM H3 l qs := L1.mono s3
    refine ⟨sz (by simp),fun t H4 s4 f4 n4 => ?_⟩
    exact q t l r qs rs H4 (s1.trans (s3.trans s4)) f4 (L3'.mono s4) ⟨h1,h10⟩ (L3.mono s4) ⟨h3,h30⟩ (s0.free nl) (s1.free (s2.free nr)) (ne_of_none (s2 _ _ L1.lst) nr)
theorem S_law_divisor : FnScope ["one","other"] ["one","other"] (defScope (top 79)) := ⟨rfl,rfl,rfl,by decide +kernel,rfl,by decide +kernel,by decide +kernel⟩
theorem fn_law_divisor (D_law_divisor : Df K mg "_law_divisor" (top 79)) (T : Txt mg) : Fn P w K mg base "_law_divisor" ["one","other"] 1 spDiv := by
  refine D_law_divisor.fn S_law_divisor (fun _ _ _ _ _ _ us hl => by obtain ⟨_,_,rfl⟩ := len2 hl; rfl) (fun vs H Q E h => ?_) (fun f cdv A outer s H vs Q E hr h => ?_)
  · obtain ⟨a,b,rfl,_⟩ := h
    rfl
  · obtain ⟨a,b,rfl,hb,q⟩ := h
    refine ⟨_,(pss_cons (ps_while PassesOwn.never (pt_cmpR op_ne (pv 1) pe_int (nomark _)) (pss_one (ps_par (i := 0) (j := 1) rfl S_law_divisor.nd rfl rfl (by decide) rfl rfl (pa_cons (pv 1) (pa_cons (pe_op op_mod (pv 0) (pv 1)) pa_nil)) (by rfl)))) (pss_one (ps_ret (pe_callB call_abs (by rfl) T.z_abs bt_abs (pa_cons (pv 0) pa_nil))))),?_⟩
    refine while_by (fun σ H' => ∃ x y : Int,σ = [some (.int x),some (.int y)] ∧ H' = H ∧ 0 ≤ y ∧ Int.gcd x y = Int.gcd a b)
      (fun σ _ => match σ with | [_,some (.int y)] => y.toNat | _ => 0) ⟨_,_,rfl,rfl,hb,rfl⟩ ?_ ?_
    · rintro σ H' ⟨x,y,rfl,rfl,hy,hg⟩
      refine ⟨_,rfl,rfl,_,rfl,?_⟩
      refine ite3 (fun hc => ?_) (fun hc => ?_)
      · have hy0 : ¬ y = 0 := by simpa using hc
        have hy1 : 0 < y := by omega
        refine ⟨_,rfl,_,rfl,_,rfl,x,y,rfl,rfl,hy1,_,_,rfl,⟨y,x % y,rfl,rfl,Int.emod_nonneg _ hy0,?_⟩,?_⟩
        · rw [gcd_step' hy1]
          exact hg
        · have h1 := Int.emod_lt_of_pos x hy1
          have h2 := Int.emod_nonneg x hy0
          show (x % y).toNat < y.toNat
          omega
      · have hy0 : y = 0 := by simpa using hc
        subst hy0
        refine ⟨_,rfl,x,rfl,?_⟩
        have e : (Int.gcd a b : Int) = (if x < 0 then -x else x) := by rw [← hg,Int.gcd_zero]; split <;> omega
        rw [e] at q
        exact q
    · rintro σ H' Q1 Q2 hq ⟨v,e,hs,k,ek,r⟩
      exact ⟨v,e,hs,k,ek,hq _ _ r⟩
theorem S_law_ratio : FnScope ["top","bottom","by"] ["top","bottom"] (defScope (top 80)) := ⟨rfl,rfl,rfl,by decide +kernel,rfl,by decide +kernel,by decide +kernel⟩
theorem fn_law_ratio (D_law_ratio : Df K mg "_law_ratio" (top 80)) (F_law_divisor : Fn P w K mg base "_law_divisor" ["one","other"] 1 spDiv) : Fn P w K mg base "_law_ratio" ["top","bottom"] 2 spLRat := by
  refine D_law_ratio.fn S_law_ratio (fun _ _ _ _ _ _ us hl => by obtain ⟨_,_,rfl⟩ := len2 hl; rfl) (fun vs H Q E h => ?_) (fun f cdv A outer s H vs Q E hr h => ?_)
  · obtain ⟨a,b,rfl,_⟩ := h
    rfl
  · obtain ⟨a,b,rfl,⟨hb,bb⟩,q⟩ := h
    refine ⟨_,(pss_cons (ps_set (i := 2) S_law_ratio.nd rfl (Or.inl rfl) (pe_fn F_law_divisor (hr.mono (by decide)) (by rfl) (pa_cons (pv 0) (pa_cons (pv 1) pa_nil)))) (pss_one (ps_ret (pe_tupA (pa_cons (pe_op op_fdivP (pv 0) (pv 2)) (pa_cons (pe_op op_fdivP (pv 1) (pv 2)) pa_nil)))))),?_⟩
    refine ⟨_,rfl,_,rfl,a,b,rfl,by omega,?_⟩
    have hg := gcd_pos (a := a) (b := b) (by omega)
    have bg : bits (Int.gcd a b : Int) ≤ 8000 := bits_le (gcd_bits2 (by omega) bb) (by decide)
    refine ⟨_,rfl,_,rfl,_,_,rfl,rfl,⟨hg,bg⟩,_,rfl,_,rfl,_,_,rfl,rfl,⟨hg,bg⟩,sz (by simp),fun p H1 s1 f1 n1 => ?_⟩
    exact q p _ _ H1 (frac_pos hb) rfl rfl s1 f1 n1
theorem S_law_below : FnScope ["one","other"] ["one","other"] (defScope (top 81)) := ⟨rfl,rfl,rfl,by decide +kernel,rfl,by decide +kernel,by decide +kernel⟩
theorem fn_law_below (D_law_below : Df K mg "_law_below" (top 81)) : Fn P w K mg base "_law_below" ["one","other"] 1 spLess := by
  refine D_law_below.fn S_law_below (fun _ _ _ _ _ _ us hl => by obtain ⟨_,_,rfl⟩ := len2 hl; rfl) (fun vs H Q E h => ?_) (fun f cdv A outer s H vs Q E hr h => ?_)
  · obtain ⟨p,q,a,b,c,d,rfl,_⟩ := h
    rfl
  · obtain ⟨p,q,a,b,c,d,rfl,hp,hq,⟨ba,bb,bc,bd⟩,k⟩ := h
    refine ⟨_,(pss_one (ps_ret (pe_cmpR op_lt (pe_op op_mulX (pe_ix ix_tup (pv 0) pe_int (fun _ _ => rfl)) (pe_ix ix_tup (pv 1) pe_int (fun _ _ => rfl))) (pe_op op_mulX (pe_ix ix_tup (pv 1) pe_int (fun _ _ => rfl)) (pe_ix ix_tup (pv 0) pe_int (fun _ _ => rfl))) (nomark _)))),?_⟩
    walk_at "rd"
    exact k
theorem S_law_spot_on : FnScope ["pot","at","parts"] ["pot","at"] (defScope (top 84)) := ⟨rfl,rfl,rfl,by decide +kernel,rfl,by decide +kernel,by decide +kernel⟩
theorem fn_law_spot_on (D_law_spot_on : Df K mg "_law_spot_on" (top 84)) (F_law_take : Fn P w K mg base "_law_take" ["pot","size"] 1 Dr.spTk) (F_law_wide : Fn P w K mg base "_law_wide" ["pot","size"] 2 Dr.spWd) (F_law_ratio : Fn P w K mg base "_law_ratio" ["top","bottom"] 2 spLRat) : Fn P w K mg base "_law_spot_on" ["pot","at"] 3 spSpot := by
  refine D_law_spot_on.fn S_law_spot_on (fun _ _ _ _ _ _ us hl => by obtain ⟨_,_,rfl⟩ := len2 hl; rfl) (fun vs H Q E h => ?_) (fun f cdv A outer s H vs Q E hr h => ?_)
  · obtain ⟨p,n,k,rfl,_⟩ := h
    rfl
  · obtain ⟨p,n,k,rfl,pt,hk,⟨hn0,hn1⟩,q⟩ := h
    refine ⟨_,(pss_cons (ps_set (i := 2) S_law_spot_on.nd rfl (Or.inl rfl) (pe_op op_add pe_int (pe_fn F_law_wide (hr.mono (by decide)) (by rfl) (pa_cons (pv 0) (pa_cons (pe_ix ix_list (pe_lstA (pa_cons pe_int (pa_cons pe_int (pa_cons pe_int (pa_cons (pe_op op_pow pe_int pe_int) pa_nil))))) (pe_fn F_law_take (hr.mono (by decide)) (by rfl) (pa_cons (pv 0) (pa_cons pe_int pa_nil))) (fun _ _ => rfl)) pa_nil))))) (pss_one (ps_ret (pe_fn F_law_ratio (hr.mono (by decide)) (by rfl) (pa_cons (pe_op op_add (pe_op op_mulX (pv 1) (pv 2)) (pe_fn F_law_wide (hr.mono (by decide)) (by rfl) (pa_cons (pv 0) (pa_cons (pe_op op_add (pv 2) pe_int) pa_nil)))) (pa_cons (pv 2) pa_nil)))))),?_⟩
    have e18 : (10 : Int) ^ (18 : Int).toNat = 1000000000000000000 := by decide +kernel
    refine ⟨_,rfl,_,_,rfl,rfl,⟨by decide,by decide,by decide⟩,sz (by simp),fun pl H1 s1 f1 n1 => ?_⟩
    have np1 := Pot.ne pt n1
    have p1 := pt.same s1
    refine ⟨_,rfl,p,_,_,rfl,p1,by omega,⟨by decide,by decide⟩,fun r2 H2 a2 b2' b2 p2 => ?_⟩
    refine menuI (fun m => 1 ≤ m ∧ m ≤ 1000000000000000000) (b2 _ _ np1 f1) a2 (by simpa using b2') (fun v hv => ?_) fun m hm => ?_
    · simp only [List.mem_cons,List.not_mem_nil,or_false] at hv
      rcases hv with rfl | rfl | rfl | rfl
      · exact ⟨_,rfl,by decide,by decide⟩
      · exact ⟨_,rfl,by decide,by decide⟩
      · exact ⟨_,rfl,by decide,by decide⟩
      · exact ⟨_,rfl,by rw [e18]; decide,by rw [e18]; decide⟩
    have bits61 : ∀ {z : Int},0 ≤ z → z ≤ 1000000000000000001 → bits z ≤ 61 := fun {z} h0 h1 => bits_of (n := 61) (by show _ < 2305843009213693952; omega)
    refine ⟨p,_,_,rfl,p2,by omega,⟨by omega,bits_le (bits61 (by omega) (by omega)) (by decide)⟩,fun r3 H3 a3 b3' b3 p3 => ⟨_,_,rfl,rfl,?_⟩⟩
    have bn : bits n ≤ 10 := bits_small (by omega) (by omega)
    have bp : bits (1 + r3) ≤ 61 := bits61 (by omega) (by omega)
    have bp60 : bits (1 + r3) ≤ 60 := bits_of (n := 60) (by show _ < 1152921504606846976; omega)
    refine ⟨_,rfl,_,rfl,_,_,rfl,rfl,CM.l (lt64s (by omega) (by omega)),_,rfl,_,rfl,_,_,rfl,rfl,p,_,_,rfl,p3,by omega,⟨by omega,bits_le (bits61 (by omega) (by omega)) (by decide)⟩,fun r4 H4 a4 b4' b4 p4 => ⟨_,_,rfl,rfl,?_⟩⟩
    have B4 : But p H H4 := ((But.of s1).trans b2).trans (b3.trans b4)
    refine ⟨_,rfl,_,_,rfl,⟨by omega,bits_le bp (by decide)⟩,fun z t b H5 fr et eb s5 f5 n5 => ?_⟩
    have hb : 0 < b := fr.low.pos
    have hpp : 0 < 1 + r3 := by omega
    have heq := fr.eq
    have br4 : bits r4 ≤ 61 := bits61 (by omega) (by omega)
    have btop : bits (n * (1 + r3) + r4) ≤ 100 := by walk_at "bl"
    refine q z t b H5 fr.low ?_ ?_ ?_ ?_ (B4.trans (But.of s5)) f5 ((p4.same s5).mono (by omega))
    · have h1 : n * b * (1 + r3) ≤ t * (1 + r3) := by
        rw [← heq]
        have : 0 ≤ r4 * b := Int.mul_nonneg a4 (by omega)
        have e : (n * (1 + r3) + r4) * b = n * b * (1 + r3) + r4 * b := by grind
        omega
      exact Int.le_of_mul_le_mul_right h1 hpp
    · have h1 : t * (1 + r3) ≤ (n + 1) * b * (1 + r3) := by
        rw [← heq]
        have : r4 * b ≤ (1 + r3) * b := Int.mul_le_mul_of_nonneg_right (by omega) (by omega)
        have e : (n * (1 + r3) + r4) * b = n * b * (1 + r3) + r4 * b := by grind
        have e2 : (n + 1) * b * (1 + r3) = n * b * (1 + r3) + (1 + r3) * b := by grind
        omega
      exact Int.le_of_mul_le_mul_right h1 hpp
    · rw [et]
      exact bits_le (bits_ediv (gcd_pos (by omega)) btop) (by decide)
    · rw [eb]
      exact bits_ediv (gcd_pos (by omega)) bp60
theorem S_law_any : FnScope ["pot","last","way"] ["pot","last","way"] (defScope (top 85)) := ⟨rfl,rfl,rfl,by decide +kernel,rfl,by decide +kernel,by decide +kernel⟩
theorem fn_law_any (D_law_any : Df K mg "_law_any" (top 85)) (F_law_take : Fn P w K mg base "_law_take" ["pot","size"] 1 Dr.spTk) (F_law_spot_on : Fn P w K mg base "_law_spot_on" ["pot","at"] 3 spSpot) : Fn P w K mg base "_law_any" ["pot","last","way"] 4 spAny := by
  refine D_law_any.fn S_law_any (fun _ _ _ _ _ _ us hl => by obtain ⟨_,_,_,rfl⟩ := len3 hl; rfl) (fun vs H Q E h => ?_) (fun f cdv A outer s H vs Q E hr h => ?_)
  · obtain ⟨p,n,k,w,rfl,_⟩ := h
    rfl
  · obtain ⟨p,n,k,w,rfl,pt,hk,⟨hn0,hn1⟩,q⟩ := h
    refine ⟨_,(pss_cons (ps_if (pw_or (pt_cmpR op_eq (pv 1) pe_int (nomark _)) (pw_or (pt_cmpR op_eq (pv 2) pe_str (nomark _)) (pw_or1 (pt_cmpR op_eq (pe_fn F_law_take (hr.mono (by decide)) (by rfl) (pa_cons (pv 0) (pa_cons pe_int pa_nil))) pe_int (nomark _))))).pt (pss_one (ps_ret (pe_tupA (pa_cons (pe_fn F_law_take (hr.mono (by decide)) (by rfl) (pa_cons (pv 0) (pa_cons (pe_op op_add (pv 1) pe_int) pa_nil))) (pa_cons pe_int pa_nil))))) pss_nil) (pss_one (ps_ret (pe_fn F_law_spot_on (hr.mono (by decide)) (by rfl) (pa_cons (pv 0) (pa_cons (pe_fn F_law_take (hr.mono (by decide)) (by rfl) (pa_cons (pv 0) (pa_cons (pv 1) pa_nil))) pa_nil)))))),?_⟩
    have whole : ∀ (H1 : Hp) (k' : Int),But p H H1 → Pot H1 p k' → k' ≤ k + 5 → (tRet (tTupA (tCons (tCall spTk [] E0 (tCons (tVar 0) (tCons (tOp (rI0 fun i j => .int (i + j)) (tVar 1) (tC (.int 1))) tNil))) (tCons (tC (.int 1)) tNil)))) { nx := fun _ H' => Q .non H',rt := Q } [some (.ref p),some (.int n),some (.str w)] H1 := fun H1 k' b1 p1 hk' => by
      refine ⟨_,rfl,_,rfl,_,_,rfl,rfl,p,_,_,rfl,p1,by omega,⟨by omega,bits_le (bits_small (by omega) (by omega)) (by decide)⟩,fun r2 H2 a2 b2' b2 p2 => ?_⟩
      refine ⟨sz (by simp),fun z H3 s3 f3 n3 => q z r2 1 H3 ⟨f3,⟨by decide,Int.gcd_one⟩,a2,by omega,bits_le (bits_small (by omega) (by omega)) (by decide),by decide,fun _ => rfl⟩ (b1.trans (b2.trans (But.of s3))) ((p2.same s3).mono (by omega))⟩
    refine ⟨_,rfl,rfl,_,rfl,ite3 (fun h1 => ?_) (fun h1 => ?_)⟩
    · exact whole H k But.refl pt (by omega)
    have hn : n ≠ 0 := by
      intro z
      subst z
      exact absurd h1 (by decide)
    refine ⟨_,rfl,rfl,_,rfl,ite3 (fun h2 => ?_) (fun h2 => ?_)⟩
    · exact whole H k But.refl pt (by omega)
    have hw : w ≠ wHops := fun z => by
      subst z
      exact absurd h2 (by decide)
    refine ⟨_,rfl,p,_,_,rfl,pt,by omega,⟨by decide,by decide⟩,fun r1 H1 _ _ b1 p1 => ?_⟩
    refine ⟨rfl,_,rfl,ite3 (fun h3 => ?_) (fun h3 => ?_)⟩
    · exact whole H1 (k + 1) b1 p1 (by omega)
    refine ⟨_,rfl,_,rfl,_,rfl,p,_,_,rfl,p1,by omega,⟨by omega,bits_le (bits_small (by omega) (by omega)) (by decide)⟩,fun r2 H2 a2 b2' b2 p2 => ?_⟩
    refine ⟨p,_,_,rfl,p2,by omega,⟨a2,by omega⟩,fun z t b H3 lw g1 g2 bt bb b3 f3 p3 => ?_⟩
    have hb := lw.pos
    have h0 : 0 ≤ r2 * b := Int.mul_nonneg a2 (by omega)
    have h9 : (r2 + 1) * b ≤ n * b := Int.mul_le_mul_of_nonneg_right (by omega) (by omega)
    exact q z t b H3 ⟨f3,lw,by omega,by omega,bt,bb,fun z => absurd z hw⟩ (b1.trans (b2.trans b3)) (p3.mono (by omega))
theorem S_law_ahead : FnScope ["pot","place","last","way","at","turn","spot"] ["pot","place","last","way"] (defScope (top 86)) := ⟨rfl,rfl,rfl,by decide +kernel,rfl,by decide +kernel,by decide +kernel⟩
theorem fn_law_ahead (D_law_ahead : Df K mg "_law_ahead" (top 86)) (F_law_take : Fn P w K mg base "_law_take" ["pot","size"] 1 Dr.spTk) (F_law_spot_on : Fn P w K mg base "_law_spot_on" ["pot","at"] 3 spSpot) (F_law_below : Fn P w K mg base "_law_below" ["one","other"] 1 spLess) : Fn P w K mg base "_law_ahead" ["pot","place","last","way"] 4 spAhead := by
  refine D_law_ahead.fn S_law_ahead (fun _ _ _ _ _ _ us hl => by obtain ⟨_,_,_,_,rfl⟩ := len4 hl; rfl) (fun vs H Q E h => ?_) (fun f cdv A outer s H vs Q E hr h => ?_)
  · obtain ⟨p,z0,t0,b0,n,k,wy,rfl,_⟩ := h
    rfl
  · obtain ⟨p,z0,t0,b0,n,k,wy,rfl,pt,hk,⟨hn0,hn1⟩,d0,q⟩ := h
    have hb := d0.low.pos
    have bb0 : bits b0 ≤ 8000 := bits_le d0.bb (by decide)
    have f0 := fl_nn hb d0.n0
    have f1 := fl_le_n hb d0.n1
    have g1 := fl_le (a := t0) hb
    have g2 := fl_lt (a := t0) hb
    have stay : ∀ {H1 : Hp} {k' : Int},But p H H1 → Pot H1 p k' → k' ≤ k + 20 → Q (.ref z0) H1 := fun b1 p1 hk' => q z0 t0 b0 _ (d0.t' (b1.t pt)) (go_self hb d0.hop) b1 (p1.mono hk')
    have R : ∃ u,PSs (cxOf CX0 P w K mg base ["pot","place","last","way","at","turn","spot"] "_law_ahead" (defScope (top 86)) f cdv A outer s H E).nox ((defBody (top 86)).drop 4) u ∧ ∀ (r1 : Int) (H2 : Hp) (k' : Int),But p H H2 → Pot H2 p k' → k' ≤ k + 3 → u { nx := fun _ H' => Q .non H',rt := Q } [some (.ref p),some (.ref z0),some (.int n),some (.str wy),some (.int (t0 / b0)),some (.int r1),none] H2 := by
      refine ⟨_,(pss_cons (ps_if (pt_cmpR op_eq (pv 4) (pv 2) (nomark _)) (pss_one (ps_ret (pv 1))) pss_nil) (pss_cons (ps_set (i := 6) S_law_ahead.nd rfl (Or.inl rfl) (pe_tupA (pa_cons (pe_op op_add (pv 4) pe_int) (pa_cons pe_int pa_nil)))) (pss_cons (ps_if (pw_and (pt_cmpR op_eq (pv 5) pe_int (nomark _)) (pw_and1 (pt_cmpR op_ne (pv 3) pe_str (nomark _)))).pt (pss_one (ps_set (i := 6) S_law_ahead.nd rfl (Or.inl rfl) (pe_fn F_law_spot_on (hr.mono (by decide)) (by rfl) (pa_cons (pv 0) (pa_cons (pv 4) pa_nil))))) pss_nil) (pss_cons (ps_if (pw_and (pt_cmpR op_ne (pv 3) pe_str (nomark _)) (pw_and1 (pt_val (pe_fn F_law_below (hr.mono (by decide)) (by rfl) (pa_cons (pv 6) (pa_cons (pv 1) pa_nil)))))).pt (pss_one (ps_ret (pv 1))) pss_nil) (pss_one (ps_ret (pv 6))))))),fun r1 H2 k' b2 p2 hk2 => ?_⟩
      have d2 := d0.t' (b2.t pt)
      refine ⟨_,rfl,_,rfl,rfl,_,rfl,ite3 (fun h2 => ?_) (fun h2 => ?_)⟩
      · exact ⟨_,rfl,stay b2 p2 (by omega)⟩
      have hne : t0 / b0 ≠ n := fun z => by
        rw [z] at h2
        exact absurd h2 (by simp)
      refine ⟨_,rfl,_,_,rfl,rfl,sz (by simp),fun zs H3 s3 f3 n3 => ?_⟩
      have fin : ∀ (zs : Addr) (t b : Int) (H4 : Hp) (k4 : Int),Dp H4 zs t b n wy → (t0 / b0) * b ≤ t → t ≤ (t0 / b0 + 1) * b → (wy = wHops → t = t0 / b0 + 1 ∧ b = 1) → But p H H4 → Pot H4 p k4 → k4 ≤ k + 20 →
          (tSeq (tIfS (tAnd (tTest (tOp rNe (tVar 3) (tC (.str wFree)))) (tB (tCall spLess [] E0 (tCons (tVar 6) (tCons (tVar 1) tNil))))) (tRet (tVar 1)) tNext) (tRet (tVar 6))) { nx := fun _ H' => Q .non H',rt := Q } [some (.ref p),some (.ref z0),some (.int n),some (.str wy),some (.int (t0 / b0)),some (.int r1),some (.ref zs)] H4 := by
        intro zs t b H4 k4 d4 j1 j2 jh b4 p4 hk4
        have d04 := d0.t' (b4.t pt)
        have hb4 := d4.low.pos
        have go : (wy ≠ wFree → ¬ t * b0 < t0 * b) → goB wy t0 b0 t b = true := fun hf => go_of (k := t0 / b0) hb hb4 g1 (by omega) j1 j2 (fun z => by
          obtain ⟨e1,e2⟩ := jh z
          have e3 := d0.hop z
          subst e2 e3
          rw [Int.ediv_one] at e1
          exact ⟨rfl,rfl,.inr (by omega)⟩) hf
        refine ⟨_,rfl,rfl,_,rfl,ite3 (fun h3 => ?_) (fun h3 => ?_)⟩
        · refine ⟨_,rfl,_,rfl,zs,z0,_,_,_,_,rfl,d4.at_,d04.at_,⟨bits_le d4.bt (by decide),bits_le d4.bb (by decide),bits_le d04.bt (by decide),bits_le d04.bb (by decide)⟩,_,rfl,ite3 (fun h4 => ?_) (fun h4 => ?_)⟩
          · exact ⟨_,rfl,stay b4 p4 hk4⟩
          · exact ⟨_,rfl,q zs t b H4 d4 (go fun _ => dec_f h4) b4 (p4.mono hk4)⟩
        · have ew : wy = wFree := by
            have h3' : decide (V.str wy = V.str wFree) = true := by simpa using h3
            have := dec_t h3'
            cases this
            rfl
          exact ⟨_,rfl,q zs t b H4 d4 (go fun z => absurd ew z) b4 (p4.mono hk4)⟩
      have b3 : But p H H3 := b2.trans (But.of s3)
      have p3 := p2.same s3
      have hm : (t0 / b0 + 1) ≤ n := by omega
      have dS : Dp H3 zs (t0 / b0 + 1) 1 n wy := ⟨f3,⟨by decide,Int.gcd_one⟩,by omega,by omega,bits_le (bits_small (by omega) (by omega)) (by decide),by decide,fun _ => rfl⟩
      refine ⟨_,rfl,rfl,_,rfl,ite3 (fun h5 => ?_) (fun h5 => ?_)⟩
      · refine ⟨_,rfl,rfl,_,rfl,ite3 (fun h6 => ?_) (fun h6 => ?_)⟩
        · have nw : wy ≠ wHops := fun z => by
            subst z
            exact absurd h6 (by decide)
          refine ⟨_,rfl,_,rfl,p,_,_,rfl,p3,by omega,⟨f0,by omega⟩,fun zt t b H4 lw c1 c2 bt bb b4 f4 p4 => ?_⟩
          have hbz := lw.pos
          have m0 : 0 ≤ t0 / b0 * b := Int.mul_nonneg f0 (by omega)
          have m1 : (t0 / b0 + 1) * b ≤ n * b := Int.mul_le_mul_of_nonneg_right hm (by omega)
          exact fin zt t b H4 _ ⟨f4,lw,by omega,by omega,bt,bb,fun z => absurd z nw⟩ c1 c2 (fun z => absurd z nw) (b3.trans b4) p4 (by omega)
        · exact fin zs _ 1 H3 _ dS (by omega) (by omega) (fun _ => ⟨rfl,rfl⟩) b3 p3 (by omega)
      · exact fin zs _ 1 H3 _ dS (by omega) (by omega) (fun _ => ⟨rfl,rfl⟩) b3 p3 (by omega)
    obtain ⟨u,hu,ru⟩ := R
    refine ⟨_,(pss_cons (ps_set (i := 4) S_law_ahead.nd rfl (Or.inl rfl) (pe_op op_fdivP (pe_ix ix_tup (pv 1) pe_int (fun _ _ => rfl)) (pe_ix ix_tup (pv 1) pe_int (fun _ _ => rfl)))) (pss_cons (ps_set (i := 5) S_law_ahead.nd rfl (Or.inl rfl) (pe_fn F_law_take (hr.mono (by decide)) (by rfl) (pa_cons (pv 0) (pa_cons pe_int pa_nil)))) (pss_cons (ps_if (pt_cmpR op_eq (pv 5) pe_int (nomark _)) (pss_one (ps_ret (pv 1))) pss_nil) (pss_cons (ps_if (pw_and (pt_cmpR op_eq (pv 3) pe_str (nomark _)) (pw_and (pt_cmpR op_gt (pv 4) pe_int (nomark _)) (pw_and (pt_cmpR op_eq (pe_ix ix_tup (pv 1) pe_int (fun _ _ => rfl)) pe_int (nomark _)) (pw_and1 (pt_cmpR op_eq (pe_fn F_law_take (hr.mono (by decide)) (by rfl) (pa_cons (pv 0) (pa_cons pe_int pa_nil))) pe_int (nomark _)))))).pt (pss_one (ps_ret (pe_fn F_law_spot_on (hr.mono (by decide)) (by rfl) (pa_cons (pv 0) (pa_cons (pe_op op_sub (pv 4) pe_int) pa_nil))))) pss_nil) hu)))),?_⟩
    refine ⟨_,rfl,z0,_,_,_,rfl,rfl,SqT.of d0.at_,rfl,_,rfl,z0,_,_,_,rfl,rfl,SqT.of d0.at_,rfl,_,_,rfl,rfl,⟨hb,bb0⟩,?_⟩
    refine ⟨_,rfl,p,_,_,rfl,pt,by omega,⟨by decide,by decide⟩,fun r1 H1 a1 b1' b1 p1 => ?_⟩
    have d1 := d0.t' (b1.t pt)
    refine ⟨_,rfl,rfl,_,rfl,ite3 (fun h1 => ?_) (fun h1 => ?_)⟩
    · exact ⟨_,rfl,stay b1 p1 (by omega)⟩
    refine ⟨_,rfl,rfl,_,rfl,ite3 (fun h2 => ?_) (fun h2 => ?_)⟩
    · have ew : wy = wFree := by
        have := dec_t h2
        cases this
        rfl
      refine ⟨_,rfl,_,_,rfl,rfl,_,rfl,ite3 (fun h3 => ?_) (fun h3 => ?_)⟩
      · have h3 : 0 < t0 / b0 := dec_t h3
        refine ⟨_,rfl,z0,_,_,_,rfl,rfl,SqT.of d1.at_,rfl,rfl,_,rfl,ite3 (fun h4 => ?_) (fun h4 => ?_)⟩
        · have h4 : b0 = 1 := by
            have := dec_t h4
            cases this
            rfl
          refine ⟨_,rfl,p,_,_,rfl,p1,by omega,⟨by decide,by decide⟩,fun r2 H2 _ _ b2 p2 => ?_⟩
          refine ⟨rfl,_,rfl,ite3 (fun h5 => ?_) (fun h5 => ?_)⟩
          · refine ⟨_,rfl,_,rfl,_,_,rfl,rfl,p,_,_,rfl,p2,by omega,⟨by omega,by omega⟩,fun zt t b H4 lw c1 c2 bt bb b4 f4 p4 => ?_⟩
            have hbz := lw.pos
            subst h4
            rw [Int.ediv_one] at c1 c2 h3 f1
            have m0 : 0 ≤ (t0 - 1) * b := Int.mul_nonneg (by omega) (by omega)
            have m1 : t0 * b ≤ n * b := Int.mul_le_mul_of_nonneg_right f1 (by omega)
            have e1 : t0 - 1 + 1 = t0 := by omega
            have c2' : t ≤ t0 * b := by rw [e1] at c2; exact c2
            have hgo : (wy ≠ wFree → ¬ t * 1 < t0 * b) → (wy = wHops → (1 : Int) = 1 ∧ b = 1 ∧ (t - t0 = 0 ∨ t - t0 = 1)) → goB wy t0 1 t b = true := fun hf hh => go_of (k := t0 - 1) (by decide) hbz (by omega) (by omega) c1 c2 hh hf
            have nh : wy ≠ wHops := fun z => by
              rw [ew] at z
              exact absurd z (by decide)
            exact q zt t b H4 ⟨f4,lw,by omega,by omega,bt,bb,fun z => absurd z nh⟩ (hgo (fun z => absurd ew z) fun z => absurd z nh) (b1.trans (b2.trans b4)) (p4.mono (by omega))
          · exact ru r1 H2 _ (b1.trans b2) p2 (by omega)
        · exact ru r1 H1 _ b1 p1 (by omega)
      · exact ru r1 H1 _ b1 p1 (by omega)
    · exact ru r1 H1 _ b1 p1 (by omega)
theorem S_law_home : FnScope ["place","last"] ["place","last"] (defScope (top 87)) := ⟨rfl,rfl,rfl,by decide +kernel,rfl,by decide +kernel,by decide +kernel⟩
theorem fn_law_home (D_law_home : Df K mg "_law_home" (top 87)) (T : Txt mg) : Fn P w K mg base "_law_home" ["place","last"] 1 spHome := by
  refine D_law_home.fn S_law_home (fun _ _ _ _ _ _ us hl => by obtain ⟨_,_,rfl⟩ := len2 hl; rfl) (fun vs H Q E h => ?_) (fun f cdv A outer s H vs Q E hr h => ?_)
  · obtain ⟨z0,t0,b0,n,w,rfl,_⟩ := h
    rfl
  · obtain ⟨z0,t0,b0,n,w,rfl,⟨hn0,hn1⟩,d0,q⟩ := h
    refine ⟨_,(pss_one (ps_ret (pe_tupA (pa_cons (pe_callB (call_min2 rfl) (by rfl) T.z_min bt_min (pa_cons (pv 1) (pa_cons (pe_op op_add (pe_op op_fdivP (pe_ix ix_tup (pv 0) pe_int (fun _ _ => rfl)) (pe_ix ix_tup (pv 0) pe_int (fun _ _ => rfl))) pe_int) pa_nil))) (pa_cons pe_int pa_nil))))),?_⟩
    have hb := d0.low.pos
    obtain ⟨hg,h0⟩ := home_go (w := w) d0.low d0.n0 d0.n1 d0.hop
    have hle := homeT_le t0 b0 n
    refine ⟨_,rfl,_,rfl,z0,_,_,_,rfl,rfl,SqT.of d0.at_,rfl,_,rfl,z0,_,_,_,rfl,rfl,SqT.of d0.at_,rfl,_,_,rfl,rfl,⟨hb,bits_le d0.bb (by decide)⟩,_,_,rfl,rfl,_,_,rfl,sz (by simp),fun z H1 s1 f1 _ => ?_⟩
    have e : (if t0 / b0 + 1 < n then t0 / b0 + 1 else n) = homeT t0 b0 n := rfl
    have f1' : H1 z = some (.tup [.int (homeT t0 b0 n),.int 1]) := f1
    exact q z H1 ⟨f1',⟨by decide,Int.gcd_one⟩,h0,by omega,bits_le (bits_small (by omega) (by omega)) (by decide),by decide,fun _ => rfl⟩ hg s1
def ME (t : TE) : Prop := ∀ σ H Q Q',(∀ v H1,Q v H1 → Q' v H1) → t σ H Q → t σ H Q'
def MT (t : TT) : Prop := ∀ σ H Q Q',(∀ b H1,Q b H1 → Q' b H1) → t σ H Q → t σ H Q'
def MA (t : TA) : Prop := ∀ σ H Q Q',(∀ v H1,Q v H1 → Q' v H1) → t σ H Q → t σ H Q'
def MR (r : R2) : Prop := ∀ x y H Q Q',(∀ v H1,Q v H1 → Q' v H1) → r x y H Q → r x y H Q'
theorem me_var {i : Nat} : ME (tVar i) := fun σ H Q Q' hq ⟨v,e,h⟩ => ⟨v,e,hq _ _ h⟩
theorem me_c {v : V} : ME (tC v) := fun σ H Q Q' hq h => hq _ _ h
theorem me_op {r : R2} {a b : TE} (hr : MR r) (ha : ME a) (hb : ME b) : ME (tOp r a b) := fun σ H Q Q' hq h => ha σ H _ _ (fun x H1 h1 => hb σ H1 _ _ (fun y H2 h2 => hr x y H2 Q Q' hq h2) h1) h
theorem mr_eqI {K : PySem.W.Frag} {neg : Bool} : MR (rEqI K neg) := fun x y H Q Q' hq ⟨p,q,ns,ms,e1,e2,h1,h2,k⟩ => ⟨p,q,ns,ms,e1,e2,h1,h2,hq _ _ k⟩
theorem mr_ne : MR rNe := fun x y H Q Q' hq ⟨h,k⟩ => ⟨h,hq _ _ k⟩
theorem ma_nil : MA tNil := fun σ H Q Q' hq h => hq _ _ h
theorem ma_cons {a : TE} {r : TA} (ha : ME a) (hr : MA r) : MA (tCons a r) := fun σ H Q Q' hq h => ha σ H _ _ (fun x H1 h1 => hr σ H1 _ _ (fun xs H2 h2 => hq _ _ h2) h1) h
theorem me_tupA {t : TA} (h : MA t) : ME (tTupA t) := fun σ H Q Q' hq k => h σ H _ _ (fun xs H1 ⟨z,f⟩ => ⟨z,fun p H2 s e n => hq _ _ (f p H2 s e n)⟩) k
theorem mt_test {t : TE} (h : ME t) : MT (tTest t) := fun σ H Q Q' hq k => h σ H _ _ (fun x H1 ⟨b,e,f⟩ => ⟨b,e,hq _ _ f⟩) k
theorem mt_or {a b : TT} (ha : MT a) (hb : MT b) : MT (tOr a b) := fun σ H Q Q' hq k => ha σ H _ _ (fun c H1 f => by
  cases c with
  | true => exact hq _ _ f
  | false => exact hb σ H1 Q Q' hq f) k
theorem mt_and {a b : TT} (ha : MT a) (hb : MT b) : MT (tAnd a b) := fun σ H Q Q' hq k => ha σ H _ _ (fun c H1 f => by
  cases c with
  | true => exact hb σ H1 Q Q' hq f
  | false => exact hq _ _ f) k
structure WInv (H : Hp) (l : Addr) (n m : Int) (w : Str) (ps : List Pr) (q : Pr) : Prop where
  at_ : PairsAt H l (ps ++ [q])
  st : stepsB w (ps ++ [q]) = true
  inn : (ps ++ [q]).all (inB n m) = true
  fst : ∀ f,(ps ++ [q]).head? = some f → f.a = 0 ∧ f.b = 1 ∧ (w ≠ wPart → f.c = 0 ∧ f.d = 1)
  hop : w = wHops → ∀ r ∈ ps ++ [q],r.b = 1 ∧ r.d = 1
theorem steps_snoc {w : Str} {ps : List Pr} {q r : Pr} (h : stepsB w (ps ++ [q]) = true) (h2 : stepB w q r = true) : stepsB w (ps ++ [q] ++ [r]) = true := by
  rw [steps_iff] at h ⊢
  intro j u v eu ev
  have hv := (List.getElem?_eq_some_iff.mp ev).1
  rw [List.length_append,List.length_append] at hv
  simp only [List.length_cons,List.length_nil] at hv
  by_cases hj : j + 1 < ps.length + 1
  · rw [List.getElem?_append_left (by rw [List.length_append]; simp only [List.length_cons,List.length_nil]; omega)] at eu ev
    exact h j u v eu ev
  · have ej : j = ps.length := by omega
    subst ej
    rw [List.getElem?_append_left (by simp),List.getElem?_append_right (Nat.le_refl _),Nat.sub_self] at eu
    rw [List.getElem?_append_right (by simp)] at ev
    simp at ev
    cases eu
    subst ev
    exact h2
theorem head_snoc {ps : List Pr} {q r f : Pr} (h : (ps ++ [q] ++ [r]).head? = some f) : (ps ++ [q]).head? = some f := by
  cases ps with
  | nil => exact h
  | cons a b => exact h
theorem WInv.step {H H2 H3 : Hp} {l : Addr} {n m : Int} {w : Str} {ps : List Pr} {q r : Pr} (W : WInv H l n m w ps q) (s : SameT H H2) (u : Upd H2 H3 l (prs (ps ++ [q])) (prs (ps ++ [q]) ++ [.ref r.p])) (pr : PrAt H2 r) (hs : stepB w q r = true) (hi : inB n m r = true) (hh : w = wHops → r.b = 1 ∧ r.d = 1) : WInv H3 l n m w (ps ++ [q]) r := by
  refine ⟨⟨by rw [u.now]; unfold prs; rw [List.map_append (l₁ := ps ++ [q])]; rfl,fun z hz => ?_⟩,steps_snoc W.st hs,by rw [List.all_append,W.inn,Bool.true_and]; simp [hi],fun f hf => W.fst f (head_snoc hf),fun z x hx => ?_⟩
  · rcases List.mem_append.mp hz with hz | hz
    · exact ((W.at_.pr z hz).t s).t u.t
    · rw [List.mem_singleton.mp hz]
      exact pr.t u.t
  · rcases List.mem_append.mp hx with hx | hx
    · exact W.hop z x hx
    · rw [List.mem_singleton.mp hx]
      exact hh z
structure GoodW (n m : Int) (w : Str) (ps : List Pr) : Prop where
  walk : walkB n m w ps = true
  hop : w = wHops → ∀ r ∈ ps,r.b = 1 ∧ r.d = 1
theorem getLast_snoc {ps : List Pr} {q : Pr} (h : ps ++ [q] ≠ []) : (ps ++ [q]).getLast h = q := by simp
theorem WInv.good {H : Hp} {l : Addr} {n m : Int} {w : Str} {ps : List Pr} {q : Pr} (W : WInv H l n m w ps q) (hx : q.a = n ∧ q.b = 1) (hy : w = wPart ∨ (q.c = m ∧ q.d = 1)) : GoodW n m w (ps ++ [q]) := by
  refine ⟨?_,W.hop⟩
  have hne : ps ++ [q] ≠ [] := by simp
  have key : ∀ (xs : List Pr) (h : xs ≠ []),xs.all (inB n m) = true → stepsB w xs = true → (∀ f,xs.head? = some f → f.a = 0 ∧ f.b = 1 ∧ (w ≠ wPart → f.c = 0 ∧ f.d = 1)) → ((xs.getLast h).a = n ∧ (xs.getLast h).b = 1) → (w = wPart ∨ ((xs.getLast h).c = m ∧ (xs.getLast h).d = 1)) → walkB n m w xs = true := by
    intro xs h h1 h2 h3 h4 h5
    match xs,h,h1,h2,h3,h4,h5 with
    | f :: r,h,h1,h2,h3,h4,h5 =>
      rw [walkB_cons,h1,h2,Bool.true_and,Bool.and_true]
      obtain ⟨f1,f2,f3⟩ := h3 f rfl
      unfold endsB isP
      rw [f1,f2,h4.1,h4.2]
      simp only [decide_true,Bool.and_self,if_true]
      by_cases hw : w = wPart
      · rw [if_pos hw]
      · rw [if_neg hw]
        obtain ⟨g1,g2⟩ := f3 hw
        rcases h5 with h5 | ⟨h5,h6⟩
        · exact absurd h5 hw
        · rw [g1,g2,h5,h6]
          simp
  exact key _ hne W.inn W.st W.fst (by rw [getLast_snoc]; exact hx) (by rw [getLast_snoc]; exact hy)
def muP (n : Int) (H : Hp) (z : V) : Nat := match z with
  | .ref p => match H p with
    | some (.tup [.int t,.int b]) => (n - t / b).toNat
    | _ => 0
  | _ => 0
inductive spDWalk (vs : List V) (H : Hp) (Q : VK) (x_3 : XK) : Prop
  | mk : ∀ (p : Addr) (n m k : Int) (w : Str),(vs = [.ref p,.int n,.int m,.str w]) → (Pot H p k) → (k ≤ 400000) → ((0 ≤ n ∧ n ≤ 20)) → ((0 ≤ m ∧ m ≤ 20)) → (∀ (l : Addr) (ps : List Pr) (H' : Hp),PairsAt H' l ps → GoodW n m w ps → ps.length ≤ 60 → H l = none → But p H H' → Pot H' p (k + 500) → Q (.ref l) H') → spDWalk vs H Q x_3
theorem Dp.pr {H : Hp} {pp zx zy : Addr} {t b c d n m : Int} {w : Str} (e : H pp = some (.tup [.ref zx,.ref zy])) (dx : Dp H zx t b n w) (dy : Dp H zy c d m w) : PrAt H ⟨pp,zx,zy,t,b,c,d⟩ ∧ inB n m ⟨pp,zx,zy,t,b,c,d⟩ = true ∧ (w = wHops → b = 1 ∧ d = 1) := by
  refine ⟨⟨e,dx.at_,dy.at_,dx.low,dy.low,dx.n0,dy.n0,bits_le dx.bt (by decide),bits_le dx.bb (by decide),bits_le dy.bt (by decide),bits_le dy.bb (by decide)⟩,?_,fun z => ⟨dx.hop z,dy.hop z⟩⟩
  unfold inB
  rw [decide_eq_true dx.n1,decide_eq_true dy.n1]
  rfl
theorem S_law_drawn_walk : FnScope ["pot","n","m","way","x","y","walk","turn"] ["pot","n","m","way"] (defScope (top 88)) := ⟨rfl,rfl,rfl,by decide +kernel,rfl,by decide +kernel,by decide +kernel⟩
theorem fn_law_drawn_walk (D_law_drawn_walk : Df K mg "_law_drawn_walk" (top 88)) (F_law_take : Fn P w K mg base "_law_take" ["pot","size"] 1 Dr.spTk) (F_law_any : Fn P w K mg base "_law_any" ["pot","last","way"] 4 spAny) (F_law_ahead : Fn P w K mg base "_law_ahead" ["pot","place","last","way"] 4 spAhead) (F_law_home : Fn P w K mg base "_law_home" ["place","last"] 1 spHome) (T : Txt mg) : Fn P w K mg base "_law_drawn_walk" ["pot","n","m","way"] 5 spDWalk := by
  refine D_law_drawn_walk.fn S_law_drawn_walk (fun _ _ _ _ _ _ us hl => by obtain ⟨_,_,_,_,rfl⟩ := len4 hl; rfl) (fun vs H Q E h => ?_) (fun f cdv A outer s H vs Q E hr h => ?_)
  · obtain ⟨p,n,m,k,wy,rfl,_⟩ := h
    rfl
  · obtain ⟨p,n,m,k,wy,rfl,pt,hk,⟨hn0,hn1⟩,⟨hm0,hm1⟩,q⟩ := h
    have R : ∃ u,PSs (cxOf CX0 P w K mg base ["pot","n","m","way","x","y","walk","turn"] "_law_drawn_walk" (defScope (top 88)) f cdv A outer s H E).nox ((defBody (top 88)).drop 3) u ∧ ∀ (zx zy : Addr) (c d : Int) (H1 : Hp),Dp H1 zx 0 1 n wy → Dp H1 zy c d m wy → (wy ≠ wPart → c = 0 ∧ d = 1) → But p H H1 → Pot H1 p (k + 20) → u { nx := fun _ H' => Q .non H',rt := Q } [some (.ref p),some (.int n),some (.int m),some (.str wy),some (.ref zx),some (.ref zy),none,none] H1 := by
      refine ⟨_,(pss_cons (ps_set (i := 6) S_law_drawn_walk.nd rfl (Or.inl rfl) (@pe_lstA _ _ _ _ (@pa_cons _ _ _ _ _ (@pe_tupA _ _ _ _ _ (@pa_cons _ _ _ _ _ (pv 4) (@pa_cons _ _ _ _ _ (pv 5) pa_nil (by rfl)) (by rfl))) pa_nil (by rfl)))) (pss_cons (ps_for PassesOwn.never rfl (pi_range1 rfl T.z_range (pa_cons (pe_fn F_law_take (hr.mono (by decide)) (by rfl) (pa_cons (pv 0) (pa_cons pe_int pa_nil))) pa_nil)) (pg_name (i := 7) S_law_drawn_walk.nd rfl (Or.inl rfl)) (pss_cons (ps_set (i := 4) S_law_drawn_walk.nd rfl (Or.inl rfl) (pe_fn F_law_ahead (hr.mono (by decide)) (by rfl) (pa_cons (pv 0) (pa_cons (pv 4) (pa_cons (pv 1) (pa_cons (pv 3) pa_nil)))))) (pss_cons (ps_set (i := 5) S_law_drawn_walk.nd rfl (Or.inl rfl) (pe_fn F_law_ahead (hr.mono (by decide)) (by rfl) (pa_cons (pv 0) (pa_cons (pv 5) (pa_cons (pv 2) (pa_cons (pv 3) pa_nil)))))) (pss_one (ps_expr (pe_bm PySem.F.plainAttrs_list PySem.F.slot_list_append PySem.F.type_list_append mt_appendA (pv 6) (pa_cons (pe_tupA (pa_cons (pv 4) (pa_cons (pv 5) pa_nil))) pa_nil))))))) (pss_cons (ps_while PassesOwn.never (pw_or (pt_cmpR (op_neI hr.units0) (pv 4) (pe_tupA (pa_cons (pv 1) (pa_cons pe_int pa_nil))) (nomark _)) (pw_or1 (pw_and (pt_cmpR (op_neI hr.units0) (pv 5) (pe_tupA (pa_cons (pv 2) (pa_cons pe_int pa_nil))) (nomark _)) (pw_and1 (pt_cmpR op_ne (pv 3) pe_str (nomark _)))).pt)).pt (pss_cons (ps_set (i := 4) S_law_drawn_walk.nd rfl (Or.inl rfl) (pe_fn F_law_home (hr.mono (by decide)) (by rfl) (pa_cons (pv 4) (pa_cons (pv 1) pa_nil)))) (pss_cons (ps_set (i := 5) S_law_drawn_walk.nd rfl (Or.inl rfl) (pe_fn F_law_home (hr.mono (by decide)) (by rfl) (pa_cons (pv 5) (pa_cons (pv 2) pa_nil)))) (pss_one (ps_expr (pe_bm PySem.F.plainAttrs_list PySem.F.slot_list_append PySem.F.type_list_append mt_appendA (pv 6) (pa_cons (pe_tupA (pa_cons (pv 4) (pa_cons (pv 5) pa_nil))) pa_nil))))))) (pss_one (ps_ret (pv 6)))))),fun zx zy c d H1 dx dy hcd b1 p1 => ?_⟩
      refine ⟨_,rfl,_,rfl,sz (by simp),fun pp H2 s2 f2 n2 => ?_⟩
      refine ⟨sz (by simp),fun l H3 s3 f3 n3 => ?_⟩
      have p3 := (p1.same s2).same s3
      have npl := Pot.ne (p1.same s2) n3
      have nl : H l = none := b1.none npl (s2.free n3)
      obtain ⟨pr0,in0,hp0⟩ := Dp.pr (s3 _ _ f2) ((dx.t' s2.t).t' s3.t) ((dy.t' s2.t).t' s3.t)
      have b3 : But p H H3 := b1.trans ((But.of s2).trans (But.of s3))
      have W3 : WInv H3 l n m wy [] ⟨pp,zx,zy,0,1,c,d⟩ := ⟨⟨f3,fun z hz => by rw [List.mem_singleton.mp hz]; exact pr0⟩,rfl,by simp [in0],fun f hf => by cases hf; exact ⟨rfl,rfl,hcd⟩,fun z r hr => by rw [List.mem_singleton.mp hr]; exact hp0 z⟩
      refine ⟨_,rfl,p,_,_,rfl,p3,by omega,⟨by decide,by decide⟩,fun r4 H4 a4 b4' b4 p4 => ?_⟩
      have upW : ∀ {Ha Hb : Hp} {ps : List Pr} {qq : Pr} {ka : Int},WInv Ha l n m wy ps qq → But p Ha Hb → Pot Ha p ka → WInv Hb l n m wy ps qq := fun W b pa => ⟨⟨b _ _ npl W.at_.lst,fun z hz => (W.at_.pr z hz).t (b.t pa)⟩,W.st,W.inn,W.fst,W.hop⟩
      refine ⟨_,rfl,by omega,by omega,?_⟩
      refine for_range (n := r4.toNat) (lo := 0) (fun i σ H5 => ∃ (zx zy : Addr) (a b c d : Int) (ps : List Pr) (pp : Addr) (z7 : Option V),σ = [some (.ref p),some (.int n),some (.int m),some (.str wy),some (.ref zx),some (.ref zy),some (.ref l),z7] ∧ WInv H5 l n m wy ps ⟨pp,zx,zy,a,b,c,d⟩ ∧ Dp H5 zx a b n wy ∧ Dp H5 zy c d m wy ∧ ps.length = i ∧ But p H H5 ∧ Pot H5 p (k + 30 + 40 * (i : Int)))
        ⟨zx,zy,0,1,c,d,[],pp,_,rfl,upW W3 b4 p3,((dx.t' s2.t).t' s3.t).t' (b4.t p3),((dy.t' s2.t).t' s3.t).t' (b4.t p3),rfl,b3.trans b4,p4.mono (by omega)⟩ ?_ ?_
      · rintro i σ H5 hi ⟨zx,zy,a,b,c,d,ps,pp,z7,rfl,W5,dx5,dy5,hl,b5,p5⟩
        refine ⟨_,rfl,_,rfl,_,rfl,_,rfl,p,zx,a,b,n,_,wy,rfl,p5,by omega,⟨hn0,by omega⟩,dx5,fun zx' a' b' H6 dx6 g6 b6 p6 => ?_⟩
        have dy6 := dy5.t' (b6.t p5)
        refine ⟨_,rfl,_,rfl,_,rfl,_,rfl,p,zy,c,d,m,_,wy,rfl,p6,by omega,⟨hm0,by omega⟩,dy6,fun zy' c' d' H7 dy7 g7 b7 p7 => ?_⟩
        have dx7 := dx6.t' (b7.t p6)
        have W7 := upW (upW W5 b6 p5) b7 p6
        refine ⟨_,rfl,.inl ⟨rfl,_,SqL.of W7.at_.lst⟩,_,rfl,_,rfl,sz (by simp),fun pp' H8 s8 f8 n8 => ?_⟩
        obtain ⟨pr',in',hp'⟩ := Dp.pr f8 (dx7.t' s8.t) (dy7.t' s8.t)
        refine ⟨l,_,_,rfl,rfl,s8 _ _ W7.at_.lst,small1000 (by rw [prs_len,List.length_append]; simp only [List.length_cons,List.length_nil]; omega),fun H9 u => ?_⟩
        refine ⟨zx',zy',a',b',c',d',ps ++ [⟨pp,zx,zy,a,b,c,d⟩],pp',_,rfl,W7.step s8.t u pr' (by unfold stepB; rw [g6,g7]; rfl) in' hp',(dx7.t' s8.t).t' u.t,(dy7.t' s8.t).t' u.t,by simp [hl],fun b o nb e => ?_,?_⟩
        · exact u.at (fun z => by subst z; rw [nl] at e; cases e) (s8 _ _ (b7 b o nb (b6 b o nb (b5 b o nb e))))
        · obtain ⟨x,y,z,ep,rest⟩ := (p7.same s8).mono (k' := k + 30 + 40 * ((i + 1 : Nat) : Int)) (by omega)
          exact ⟨x,y,z,u.at (Ne.symm npl) ep,rest⟩
      · rintro σ H5 ⟨zx,zy,a,b,c,d,ps,pp,z7,rfl,W5,dx5,dy5,hl,b5,p5⟩
        refine while_by (fun σ H6 => ∃ (zx zy : Addr) (a b c d : Int) (ps : List Pr) (pp : Addr),σ = [some (.ref p),some (.int n),some (.int m),some (.str wy),some (.ref zx),some (.ref zy),some (.ref l),z7] ∧ WInv H6 l n m wy ps ⟨pp,zx,zy,a,b,c,d⟩ ∧ Dp H6 zx a b n wy ∧ Dp H6 zy c d m wy ∧ (ps.length : Int) + (n - a / b) + (m - c / d) ≤ 8 + n + m ∧ But p H H6 ∧ Pot H6 p (k + 400))
          (fun σ H6 => match σ with | [_,_,_,_,some zx,some zy,_,_] => muP n H6 zx + muP m H6 zy | _ => 0)
          ⟨zx,zy,a,b,c,d,ps,pp,rfl,W5,dx5,dy5,by have := fl_nn dx5.low.pos dx5.n0; have := fl_nn dy5.low.pos dy5.n0; omega,b5,p5.mono (by omega)⟩ ?_ ?_
        · rintro σ H6 ⟨zx,zy,a,b,c,d,ps,pp,rfl,W6,dx6,dy6,hl6,b6,p6⟩
          have fx0 := fl_nn dx6.low.pos dx6.n0
          have fx1 := fl_le_n dx6.low.pos dx6.n1
          have fy0 := fl_nn dy6.low.pos dy6.n0
          have fy1 := fl_le_n dy6.low.pos dy6.n1
          have mu6 : ∀ {Ha : Hp} {z : Addr} {t b n' : Int},Ha z = some (.tup [.int t,.int b]) → muP n' Ha (.ref z) = (n' - t / b).toNat := fun e => by simp only [muP,e]
          have turn : ∀ (H7 : Hp),Same H6 H7 → (a / b < n ∨ c / d < m) → (tSeq (tAsg (tCall spHome [] E0 (tCons (tVar 4) (tCons (tVar 1) tNil))) (gName 4)) (tSeq (tAsg (tCall spHome [] E0 (tCons (tVar 5) (tCons (tVar 2) tNil))) (gName 5)) (tDrop (tBM K "list" rAppendA (tVar 6) (tCons (tTupA (tCons (tVar 4) (tCons (tVar 5) tNil))) tNil)))))
              { nx := fun σ' H' => (∃ (zx zy : Addr) (a b c d : Int) (ps : List Pr) (pp : Addr),σ' = [some (.ref p),some (.int n),some (.int m),some (.str wy),some (.ref zx),some (.ref zy),some (.ref l),z7] ∧ WInv H' l n m wy ps ⟨pp,zx,zy,a,b,c,d⟩ ∧ Dp H' zx a b n wy ∧ Dp H' zy c d m wy ∧ (ps.length : Int) + (n - a / b) + (m - c / d) ≤ 8 + n + m ∧ But p H H' ∧ Pot H' p (k + 400)) ∧ (match σ' with | [_,_,_,_,some zx,some zy,_,_] => muP n H' zx + muP m H' zy | _ => 0) < muP n H6 (.ref zx) + muP m H6 (.ref zy),rt := Q } [some (.ref p),some (.int n),some (.int m),some (.str wy),some (.ref zx),some (.ref zy),some (.ref l),z7] H7 := by
            intro H7 s7 hlt
            refine ⟨_,rfl,_,rfl,zx,a,b,n,wy,rfl,⟨hn0,by omega⟩,dx6.t' s7.t,fun zx' H8 dx8 g8 s8 => ?_⟩
            refine ⟨_,rfl,_,rfl,zy,c,d,m,wy,rfl,⟨hm0,by omega⟩,(dy6.t' s7.t).t' s8.t,fun zy' H9 dy9 g9 s9 => ?_⟩
            have S9 : Same H6 H9 := s7.trans (s8.trans s9)
            refine ⟨_,rfl,.inl ⟨rfl,_,SqL.of (S9 _ _ W6.at_.lst)⟩,_,rfl,_,rfl,sz (by simp),fun pp' H10 s10 f10 n10 => ?_⟩
            have S10 := S9.trans s10
            have dx10 := (dx8.t' s9.t).t' s10.t
            have dy10 := dy9.t' s10.t
            obtain ⟨pr',in',hp'⟩ := Dp.pr f10 dx10 dy10
            refine ⟨l,_,_,rfl,rfl,S10 _ _ W6.at_.lst,small1000 (by rw [prs_len,List.length_append]; simp only [List.length_cons,List.length_nil]; omega),fun H11 u => ?_⟩
            have dx11 := dx10.t' u.t
            have dy11 := dy10.t' u.t
            have hx : homeT a b n / 1 = homeT a b n := Int.ediv_one _
            have hy : homeT c d m / 1 = homeT c d m := Int.ediv_one _
            have ux : homeT a b n = a / b + 1 ∨ (homeT a b n = n ∧ a / b = n) := by unfold homeT; split <;> omega
            have uy : homeT c d m = c / d + 1 ∨ (homeT c d m = m ∧ c / d = m) := by unfold homeT; split <;> omega
            refine ⟨⟨zx',zy',homeT a b n,1,homeT c d m,1,ps ++ [⟨pp,zx,zy,a,b,c,d⟩],pp',rfl,W6.step S10.t u pr' (by unfold stepB; rw [g8,g9]; rfl) in' hp',dx11,dy11,?_,fun b o nb e => ?_,?_⟩,?_⟩
            · rw [hx,hy,List.length_append]
              simp only [List.length_cons,List.length_nil]
              omega
            · exact u.at (fun z => by subst z; rw [nl] at e; cases e) (S10 _ _ (b6 b o nb e))
            · obtain ⟨x,y,z,ep,rest⟩ := p6.same S10
              exact ⟨x,y,z,u.at (Ne.symm npl) ep,rest⟩
            · show muP n H11 (.ref zx') + muP m H11 (.ref zy') < _
              rw [mu6 dx11.at_,mu6 dy11.at_,mu6 dx6.at_,mu6 dy6.at_,hx,hy]
              omega
          have fin : ∀ (H7 : Hp),Same H6 H7 → (a = n ∧ b = 1) → (wy = wPart ∨ (c = m ∧ d = 1)) → (tRet (tVar 6)) { nx := fun _ H' => Q .non H',rt := Q } [some (.ref p),some (.int n),some (.int m),some (.str wy),some (.ref zx),some (.ref zy),some (.ref l),z7] H7 := fun H7 s7 hx hy =>
            ⟨_,rfl,q l _ H7 (W6.at_.mono s7) (W6.good hx hy) (by rw [List.length_append]; simp only [List.length_cons,List.length_nil]; omega) nl (b6.trans (But.of s7)) ((p6.same s7).mono (by omega))⟩
          have full : ∀ {t b n' : Int},Low t b → t ≤ n' * b → 0 ≤ t → decide ([t,b] = [n',1]) = false → t / b < n' := fun {t b n'} lw h1 h0 hc => by
            have hle := fl_le_n lw.pos h1
            by_cases e : t / b = n'
            · obtain ⟨rfl,rfl⟩ := fl_full lw h1 e
              simp at hc
            · omega
          refine ⟨_,rfl,_,rfl,sz (by simp),fun t1 H7 s7 g7 _ => ?_⟩
          refine ⟨zx,t1,[a,b],[n,1],rfl,rfl,SqT.of (s7 _ _ dx6.at_),SqT.of g7,_,rfl,?_⟩
          show if (!decide ([a,b] = [n,1])) = true then _ else _
          refine ite3 (fun c1 => ?_) (fun c1 => ?_)
          · exact turn H7 s7 (.inl (full dx6.low dx6.n1 dx6.n0 (by simpa only [Bool.not_eq_true'] using c1)))
          have ex : a = n ∧ b = 1 := by simpa using c1
          refine ⟨_,rfl,_,rfl,sz (by simp),fun t2 H8 s8 g8 _ => ?_⟩
          refine ⟨zy,t2,[c,d],[m,1],rfl,rfl,SqT.of (s8 _ _ (s7 _ _ dy6.at_)),SqT.of g8,_,rfl,?_⟩
          show if (!decide ([c,d] = [m,1])) = true then _ else _
          refine ite3 (fun c2 => ?_) (fun c2 => ?_)
          · refine ⟨_,rfl,rfl,_,rfl,ite3 (fun c3 => ?_) (fun c3 => ?_)⟩
            · exact turn H8 (s7.trans s8) (.inr (full dy6.low dy6.n1 dy6.n0 (by simpa only [Bool.not_eq_true'] using c2)))
            · have ew : wy = wPart := by
                have h3' : decide (V.str wy = V.str (Str.ofString "part")) = true := by simpa only [Bool.not_eq_true',Bool.not_eq_false',Bool.not_eq_false] using c3
                have := dec_t h3'
                cases this
                rfl
              exact fin H8 (s7.trans s8) ex (.inl ew)
          · have ey : c = m ∧ d = 1 := by simpa using c2
            exact fin H8 (s7.trans s8) ex (.inr ey)
        · exact mt_or (mt_test (me_op mr_eqI me_var (me_tupA (ma_cons me_var (ma_cons me_c ma_nil))))) (mt_and (mt_test (me_op mr_eqI me_var (me_tupA (ma_cons me_var (ma_cons me_c ma_nil))))) (mt_test (me_op mr_ne me_var me_c)))
    obtain ⟨u,hu,ru⟩ := R
    refine ⟨_,(pss_cons (ps_set (i := 4) S_law_drawn_walk.nd rfl (Or.inl rfl) (pe_tupA (pa_cons pe_int (pa_cons pe_int pa_nil)))) (pss_cons (ps_set (i := 5) S_law_drawn_walk.nd rfl (Or.inl rfl) (pe_tupA (pa_cons pe_int (pa_cons pe_int pa_nil)))) (pss_cons (ps_if (pt_cmpR op_eq (pv 3) pe_str (nomark _)) (pss_one (ps_set (i := 5) S_law_drawn_walk.nd rfl (Or.inl rfl) (pe_fn F_law_any (hr.mono (by decide)) (by rfl) (pa_cons (pv 0) (pa_cons (pv 2) (pa_cons (pv 3) pa_nil)))))) pss_nil) hu))),?_⟩
    refine ⟨sz (by simp),fun zx H1 s1 f1 n1 => ?_⟩
    refine ⟨sz (by simp),fun zy H2 s2 f2 n2 => ?_⟩
    have dz : ∀ {Ha : Hp} {z : Addr} {n' : Int},0 ≤ n' → Ha z = some (.tup [.int 0,.int 1]) → Dp Ha z 0 1 n' wy := fun h e => ⟨e,⟨by decide,by decide⟩,by decide,by omega,by decide,by decide,fun _ => rfl⟩
    have p2 := (pt.same s1).same s2
    have b2 : But p H H2 := (But.of s1).trans (But.of s2)
    refine ⟨_,rfl,rfl,_,rfl,ite3 (fun h1 => ?_) (fun h1 => ?_)⟩
    · have ew : wy = wPart := by
        have := dec_t h1
        cases this
        rfl
      refine ⟨_,rfl,_,rfl,_,rfl,p,m,_,wy,rfl,p2,by omega,⟨hm0,by omega⟩,fun z t b H3 d3 b3 p3 => ?_⟩
      exact ru zx z t b H3 ((dz hn0 (s2 _ _ f1)).t' (b3.t p2)) d3 (fun z => absurd ew z) (b2.trans b3) p3
    · exact ru zx zy 0 1 H2 (dz hn0 (s2 _ _ f1)) (dz hm0 f2) (fun _ => ⟨rfl,rfl⟩) b2 (p2.mono (by omega))
inductive spDown (vs : List V) (H : Hp) (Q : VK) (x_3 : XK) : Prop
  | mk : ∀ (p z0 : Addr) (t0 b0 n k : Int) (wy : Str),(vs = [.ref p,.ref z0,.str wy]) → (Pot H p k) → (k ≤ 700000) → ((0 ≤ n ∧ n ≤ 50)) → (Dp H z0 t0 b0 n wy) → (∀ (z : Addr) (t b : Int) (H' : Hp),Dp H' z t b n wy → shareB t0 b0 t b = true → (wy = wHops → t0 - t ≤ 1) → But p H H' → Pot H' p (k + 20) → Q (.ref z) H') → spDown vs H Q x_3
inductive spOver (vs : List V) (H : Hp) (Q : VK) (x_3 : XK) : Prop
  | mk : ∀ (p z0 : Addr) (t0 b0 n k : Int) (wy : Str),(vs = [.ref p,.ref z0,.int n,.str wy]) → (Pot H p k) → (k ≤ 700000) → ((0 ≤ n ∧ n ≤ 50)) → (Dp H z0 t0 b0 n wy) → (∀ (z : Addr) (t b : Int) (H' : Hp),Dp H' z t b n wy → shareB t0 b0 t b = true → (wy = wHops → t - t0 ≤ 1) → But p H H' → Pot H' p (k + 20) → Q (.ref z) H') → spOver vs H Q x_3
inductive spPick (g : Int → Int → Int → Int → Bool) (vs : List V) (H : Hp) (Q : VK) (x_3 : XK) : Prop
  | mk : ∀ (p q : Addr) (a b c d : Int),(vs = [.ref p,.ref q]) → (H p = some (.tup [.int a,.int b])) → (H q = some (.tup [.int c,.int d])) → ((bits a ≤ 2000 ∧ bits b ≤ 2000 ∧ bits c ≤ 2000 ∧ bits d ≤ 2000)) → (Q (.ref (if g a b c d = true then q else p)) H) → spPick g vs H Q x_3
theorem down_at {t b n : Int} (hb : 0 < b) (h0 : 0 ≤ t) (h1 : t ≤ n * b) : (0 ≤ (if (t - 1) / b > 0 then (t - 1) / b else 0) ∧ (if (t - 1) / b > 0 then (t - 1) / b else 0) * b ≤ t ∧ t ≤ ((if (t - 1) / b > 0 then (t - 1) / b else 0) + 1) * b) ∧ (0 < t → (if (t - 1) / b > 0 then (t - 1) / b else 0) + 1 ≤ n) := by
  have q1 := fl_le (a := t - 1) hb
  have q2 := fl_lt (a := t - 1) hb
  have q3 : t - 1 < n * b → (t - 1) / b < n := fun h => Int.ediv_lt_of_lt_mul hb h
  have q4 : 0 ≤ n := by
    by_cases c : 0 ≤ n
    · exact c
    · have := Int.mul_neg_of_neg_of_pos (show n < 0 by omega) hb
      omega
  have q5 : 0 < t → 0 ≤ (t - 1) / b := fun h => fl_nn hb (by omega)
  split
  · rename_i h
    exact ⟨⟨by omega,by omega,by omega⟩,fun _ => by have := q3 (by omega); omega⟩
  · rename_i h
    refine ⟨⟨by omega,by omega,?_⟩,fun z => ?_⟩
    · have : ((t - 1) / b + 1) * b ≤ (0 + 1) * b := Int.mul_le_mul_of_nonneg_right (by omega) (by omega)
      omega
    · have := q3 (by omega)
      have := q5 z
      omega
theorem S_law_lesser : FnScope ["one","other"] ["one","other"] (defScope (top 82)) := ⟨rfl,rfl,rfl,by decide +kernel,rfl,by decide +kernel,by decide +kernel⟩
theorem fn_law_lesser (D_law_lesser : Df K mg "_law_lesser" (top 82)) (F_law_below : Fn P w K mg base "_law_below" ["one","other"] 1 spLess) : Fn P w K mg base "_law_lesser" ["one","other"] 2 (spPick fun a b c d => ltB c d a b) := by
  refine D_law_lesser.fn S_law_lesser (fun _ _ _ _ _ _ us hl => by obtain ⟨_,_,rfl⟩ := len2 hl; rfl) (fun vs H Q E h => ?_) (fun f cdv A outer s H vs Q E hr h => ?_)
  · obtain ⟨p,q,a,b,c,d,rfl,_⟩ := h
    rfl
  · obtain ⟨p,q,a,b,c,d,rfl,ep,eq,⟨ba,bb,bc,bd⟩,k⟩ := h
    refine ⟨_,(pss_cons (ps_if (pt_val (pe_fn F_law_below (hr.mono (by decide)) (by rfl) (pa_cons (pv 1) (pa_cons (pv 0) pa_nil)))) (pss_one (ps_ret (pv 1))) pss_nil) (pss_one (ps_ret (pv 0)))),?_⟩
    try dsimp only at k
    unfold ltB at k
    refine ⟨_,rfl,_,rfl,q,p,c,d,a,b,rfl,eq,ep,⟨bc,bd,ba,bb⟩,_,rfl,ite3 (fun h1 => ?_) (fun h1 => ?_)⟩
    · rw [if_pos h1] at k
      exact ⟨_,rfl,k⟩
    · rw [if_neg (by rw [h1]; decide)] at k
      exact ⟨_,rfl,k⟩
theorem S_law_greater : FnScope ["one","other"] ["one","other"] (defScope (top 83)) := ⟨rfl,rfl,rfl,by decide +kernel,rfl,by decide +kernel,by decide +kernel⟩
theorem fn_law_greater (D_law_greater : Df K mg "_law_greater" (top 83)) (F_law_below : Fn P w K mg base "_law_below" ["one","other"] 1 spLess) : Fn P w K mg base "_law_greater" ["one","other"] 2 (spPick fun a b c d => ltB a b c d) := by
  refine D_law_greater.fn S_law_greater (fun _ _ _ _ _ _ us hl => by obtain ⟨_,_,rfl⟩ := len2 hl; rfl) (fun vs H Q E h => ?_) (fun f cdv A outer s H vs Q E hr h => ?_)
  · obtain ⟨p,q,a,b,c,d,rfl,_⟩ := h
    rfl
  · obtain ⟨p,q,a,b,c,d,rfl,ep,eq,⟨ba,bb,bc,bd⟩,k⟩ := h
    refine ⟨_,(pss_cons (ps_if (pt_val (pe_fn F_law_below (hr.mono (by decide)) (by rfl) (pa_cons (pv 0) (pa_cons (pv 1) pa_nil)))) (pss_one (ps_ret (pv 1))) pss_nil) (pss_one (ps_ret (pv 0)))),?_⟩
    try dsimp only at k
    unfold ltB at k
    refine ⟨_,rfl,_,rfl,p,q,a,b,c,d,rfl,ep,eq,⟨ba,bb,bc,bd⟩,_,rfl,ite3 (fun h1 => ?_) (fun h1 => ?_)⟩
    · rw [if_pos h1] at k
      exact ⟨_,rfl,k⟩
    · rw [if_neg (by rw [h1]; decide)] at k
      exact ⟨_,rfl,k⟩
theorem S_law_down : FnScope ["pot","y","way","at","spot"] ["pot","y","way"] (defScope (top 89)) := ⟨rfl,rfl,rfl,by decide +kernel,rfl,by decide +kernel,by decide +kernel⟩
theorem fn_law_down (D_law_down : Df K mg "_law_down" (top 89)) (F_law_take : Fn P w K mg base "_law_take" ["pot","size"] 1 Dr.spTk) (F_law_spot_on : Fn P w K mg base "_law_spot_on" ["pot","at"] 3 spSpot) (F_law_below : Fn P w K mg base "_law_below" ["one","other"] 1 spLess) (T : Txt mg) : Fn P w K mg base "_law_down" ["pot","y","way"] 4 spDown := by
  refine D_law_down.fn S_law_down (fun _ _ _ _ _ _ us hl => by obtain ⟨_,_,_,rfl⟩ := len3 hl; rfl) (fun vs H Q E h => ?_) (fun f cdv A outer s H vs Q E hr h => ?_)
  · obtain ⟨p,z0,t0,b0,n,k,wy,rfl,_⟩ := h
    rfl
  · obtain ⟨p,z0,t0,b0,n,k,wy,rfl,pt,hk,⟨hn0,hn1⟩,d0,q⟩ := h
    have hb : (0 : Int) < b0 := d0.low.pos
    have bb0 : bits b0 ≤ 8000 := bits_le d0.bb (by decide)
    obtain ⟨⟨A0,A1,A2⟩,A3⟩ := down_at hb d0.n0 d0.n1
    have R4 : ∃ p4,PSs (cxOf CX0 P w K mg base ["pot","y","way","at","spot"] "_law_down" (defScope (top 89)) f cdv A outer s H E).nox ((defBody (top 89)).drop 3) p4 ∧ ∀ (H4 : Hp) (at_ : Option V) (zs : Addr) (t b : Int),Dp H4 zs t b n wy → shareB t0 b0 t b = true → (wy = wHops → t0 - t ≤ 1) → But p H H4 → Pot H4 p (k + 20) → p4 { nx := fun _ H' => Q .non H',rt := Q } [some (.ref p),some (.ref z0),some (.str wy),at_,some (.ref zs)] H4 := by
      refine ⟨_,(pss_cons (ps_if (pw_and (pt_cmpR op_ne (pv 2) pe_str (nomark _)) (pw_and1 (pt_val (pe_fn F_law_below (hr.mono (by decide)) (by rfl) (pa_cons (pv 1) (pa_cons (pv 4) pa_nil)))))).pt (pss_one (ps_ret (pv 1))) pss_nil) (pss_one (ps_ret (pv 4)))),fun H4 at_ zs t b d4 sh hp b4 p4 => ?_⟩
      have d04 := d0.t' (b4.t pt)
      have stay : Q (.ref z0) H4 := q z0 t0 b0 H4 d04 (share_of (k := t0 / b0) hb hb (fl_le hb) (by have := fl_lt (a := t0) hb; omega) (fl_le hb) (by have := fl_lt (a := t0) hb; omega)) (fun _ => by omega) b4 p4
      refine ⟨_,rfl,rfl,_,rfl,ite3 (fun h3 => ?_) (fun h3 => ?_)⟩
      · refine ⟨_,rfl,_,rfl,z0,zs,_,_,_,_,rfl,d04.at_,d4.at_,⟨bits_le d04.bt (by decide),bits_le d04.bb (by decide),bits_le d4.bt (by decide),bits_le d4.bb (by decide)⟩,_,rfl,ite3 (fun h4 => ?_) (fun h4 => ?_)⟩
        · exact ⟨_,rfl,stay⟩
        · exact ⟨_,rfl,q zs t b H4 d4 sh hp b4 p4⟩
      · exact ⟨_,rfl,q zs t b H4 d4 sh hp b4 p4⟩
    obtain ⟨p4,hp4,rd4⟩ := R4
    refine ⟨_,(pss_cons (ps_set (i := 3) S_law_down.nd rfl (Or.inl rfl) (pe_callB (call_max2 rfl) (by rfl) T.z_max bt_max (pa_cons pe_int (pa_cons (pe_op op_fdivP (pe_op op_sub (pe_ix ix_tup (pv 1) pe_int (fun _ _ => rfl)) pe_int) (pe_ix ix_tup (pv 1) pe_int (fun _ _ => rfl))) pa_nil)))) (pss_cons (ps_set (i := 4) S_law_down.nd rfl (Or.inl rfl) (pe_tupA (pa_cons (pv 3) (pa_cons pe_int pa_nil)))) (pss_cons (ps_if (pw_and (pt_cmpR op_ne (pv 2) pe_str (nomark _)) (pw_and (pt_cmpR op_gt (pe_ix ix_tup (pv 1) pe_int (fun _ _ => rfl)) pe_int (nomark _)) (pw_and1 (pt_cmpR op_eq (pe_fn F_law_take (hr.mono (by decide)) (by rfl) (pa_cons (pv 0) (pa_cons pe_int pa_nil))) pe_int (nomark _))))).pt (pss_one (ps_set (i := 4) S_law_down.nd rfl (Or.inl rfl) (pe_fn F_law_spot_on (hr.mono (by decide)) (by rfl) (pa_cons (pv 0) (pa_cons (pv 3) pa_nil))))) pss_nil) hp4))),?_⟩
    have TZ := SqT.of (K := K) d0.at_
    refine ⟨_,rfl,z0,_,_,_,rfl,rfl,TZ,rfl,_,_,rfl,rfl,_,rfl,z0,_,_,_,rfl,rfl,TZ,rfl,_,_,rfl,rfl,⟨hb,bb0⟩,_,_,rfl,?_⟩
    generalize (if (t0 - 1) / b0 > 0 then (t0 - 1) / b0 else 0) = at1 at *
    refine ⟨_,rfl,sz (by simp),fun zs H3 s3 f3 n3 => ?_⟩
    have hA : at1 ≤ n := by
      by_cases z : 0 < t0
      · have := A3 z
        omega
      · have e : t0 = 0 := by have := d0.n0; omega
        by_cases c : at1 ≤ 0
        · omega
        · have := Int.mul_pos (show 0 < at1 by omega) hb
          omega
    have dS : Dp H3 zs at1 1 n wy := ⟨f3,⟨by decide,Int.gcd_one⟩,A0,by omega,bits_le (bits_small (by omega) (by omega)) (by decide),by decide,fun _ => rfl⟩
    have shS : shareB t0 b0 at1 1 = true := share_of (k := at1) hb (by decide) A1 A2 (by omega) (by omega)
    have hpS : wy = wHops → t0 - at1 ≤ 1 := fun z => by
      have e := d0.hop z
      subst e
      omega
    have b3 : But p H H3 := But.of s3
    have p3 := pt.same s3
    have T3 := SqT.of (K := K) (s3 _ _ d0.at_)
    refine ⟨_,rfl,rfl,_,rfl,ite3 (fun h1 => ?_) (fun h1 => ?_)⟩
    · have hw : ¬ wy = wHops := dec_f (ds (show decide (V.str wy = V.str (Str.ofString "hops")) = false by simpa only [Bool.not_eq_true'] using h1))
      refine ⟨_,rfl,z0,_,_,_,rfl,rfl,T3,rfl,_,_,rfl,rfl,_,rfl,ite3 (fun h2 => ?_) (fun h2 => ?_)⟩
      · have h2 : t0 > 0 := dec_t h2
        refine ⟨_,rfl,p,_,_,rfl,p3,by omega,⟨by decide,by decide⟩,fun r1 H4 _ _ b4 p4 => ?_⟩
        have B4 := b3.trans b4
        refine ⟨rfl,_,rfl,ite3 (fun h3 => ?_) (fun h3 => ?_)⟩
        · refine ⟨_,rfl,_,rfl,p,_,_,rfl,p4,by omega,⟨A0,by omega⟩,fun z t b H5 lw g1 g2 bt bb b5 f5 p5 => ?_⟩
          have hbz := lw.pos
          have m0 : 0 ≤ at1 * b := Int.mul_nonneg A0 (by omega)
          have m1 : (at1 + 1) * b ≤ n * b := Int.mul_le_mul_of_nonneg_right (A3 h2) (by omega)
          exact rd4 H5 _ z t b ⟨f5,lw,by omega,by omega,bt,bb,fun z => absurd z hw⟩ (share_of (k := at1) hb (by omega) A1 A2 g1 g2) (fun z => absurd z hw) (B4.trans b5) (p5.mono (by omega))
        · exact rd4 H4 _ zs at1 1 (dS.t' (b4.t p3)) shS hpS B4 (p4.mono (by omega))
      · exact rd4 H3 _ zs at1 1 dS shS hpS b3 (p3.mono (by omega))
    · exact rd4 H3 _ zs at1 1 dS shS hpS b3 (p3.mono (by omega))
theorem S_law_over : FnScope ["pot","x","last","way","at","spot"] ["pot","x","last","way"] (defScope (top 90)) := ⟨rfl,rfl,rfl,by decide +kernel,rfl,by decide +kernel,by decide +kernel⟩
theorem fn_law_over (D_law_over : Df K mg "_law_over" (top 90)) (F_law_take : Fn P w K mg base "_law_take" ["pot","size"] 1 Dr.spTk) (F_law_spot_on : Fn P w K mg base "_law_spot_on" ["pot","at"] 3 spSpot) (F_law_below : Fn P w K mg base "_law_below" ["one","other"] 1 spLess) (T : Txt mg) : Fn P w K mg base "_law_over" ["pot","x","last","way"] 4 spOver := by
  refine D_law_over.fn S_law_over (fun _ _ _ _ _ _ us hl => by obtain ⟨_,_,_,_,rfl⟩ := len4 hl; rfl) (fun vs H Q E h => ?_) (fun f cdv A outer s H vs Q E hr h => ?_)
  · obtain ⟨p,z0,t0,b0,n,k,wy,rfl,_⟩ := h
    rfl
  · obtain ⟨p,z0,t0,b0,n,k,wy,rfl,pt,hk,⟨hn0,hn1⟩,d0,q⟩ := h
    have hb : (0 : Int) < b0 := d0.low.pos
    have bb0 : bits b0 ≤ 8000 := bits_le d0.bb (by decide)
    have f0 := fl_nn hb d0.n0
    have f1 := fl_le_n hb d0.n1
    have g1 := fl_le (a := t0) hb
    have g2 := fl_lt (a := t0) hb
    have R4 : ∃ p4,PSs (cxOf CX0 P w K mg base ["pot","x","last","way","at","spot"] "_law_over" (defScope (top 90)) f cdv A outer s H E).nox ((defBody (top 90)).drop 3) p4 ∧ ∀ (H4 : Hp) (at_ : Option V) (zs : Addr) (t b : Int),Dp H4 zs t b n wy → shareB t0 b0 t b = true → (wy = wHops → t - t0 ≤ 1) → But p H H4 → Pot H4 p (k + 20) → p4 { nx := fun _ H' => Q .non H',rt := Q } [some (.ref p),some (.ref z0),some (.int n),some (.str wy),at_,some (.ref zs)] H4 := by
      refine ⟨_,(pss_cons (ps_if (pw_and (pt_cmpR op_ne (pv 3) pe_str (nomark _)) (pw_and1 (pt_val (pe_fn F_law_below (hr.mono (by decide)) (by rfl) (pa_cons (pv 5) (pa_cons (pv 1) pa_nil)))))).pt (pss_one (ps_ret (pv 1))) pss_nil) (pss_one (ps_ret (pv 5)))),fun H4 at_ zs t b d4 sh hp b4 p4 => ?_⟩
      have d04 := d0.t' (b4.t pt)
      have stay : Q (.ref z0) H4 := q z0 t0 b0 H4 d04 (share_of (k := t0 / b0) hb hb g1 (by omega) g1 (by omega)) (fun _ => by omega) b4 p4
      refine ⟨_,rfl,rfl,_,rfl,ite3 (fun h3 => ?_) (fun h3 => ?_)⟩
      · refine ⟨_,rfl,_,rfl,zs,z0,_,_,_,_,rfl,d4.at_,d04.at_,⟨bits_le d4.bt (by decide),bits_le d4.bb (by decide),bits_le d04.bt (by decide),bits_le d04.bb (by decide)⟩,_,rfl,ite3 (fun h4 => ?_) (fun h4 => ?_)⟩
        · exact ⟨_,rfl,stay⟩
        · exact ⟨_,rfl,q zs t b H4 d4 sh hp b4 p4⟩
      · exact ⟨_,rfl,q zs t b H4 d4 sh hp b4 p4⟩
    obtain ⟨p4,hp4,rd4⟩ := R4
    refine ⟨_,(pss_cons (ps_set (i := 4) S_law_over.nd rfl (Or.inl rfl) (pe_callB (call_min2 rfl) (by rfl) T.z_min bt_min (pa_cons (pv 2) (pa_cons (pe_op op_add (pe_op op_fdivP (pe_ix ix_tup (pv 1) pe_int (fun _ _ => rfl)) (pe_ix ix_tup (pv 1) pe_int (fun _ _ => rfl))) pe_int) pa_nil)))) (pss_cons (ps_set (i := 5) S_law_over.nd rfl (Or.inl rfl) (pe_tupA (pa_cons (pv 4) (pa_cons pe_int pa_nil)))) (pss_cons (ps_if (pw_and (pt_cmpR op_ne (pv 3) pe_str (nomark _)) (pw_and (pt_cmpR op_gt (pv 4) pe_int (nomark _)) (pw_and (pt_cmpR (op_neI hr.units0) (pv 1) (pe_tupA (pa_cons (pv 2) (pa_cons pe_int pa_nil))) (nomark _)) (pw_and1 (pt_cmpR op_eq (pe_fn F_law_take (hr.mono (by decide)) (by rfl) (pa_cons (pv 0) (pa_cons pe_int pa_nil))) pe_int (nomark _)))))).pt (pss_one (ps_set (i := 5) S_law_over.nd rfl (Or.inl rfl) (pe_fn F_law_spot_on (hr.mono (by decide)) (by rfl) (pa_cons (pv 0) (pa_cons (pe_op op_sub (pv 4) pe_int) pa_nil))))) pss_nil) hp4))),?_⟩
    have TZ := SqT.of (K := K) d0.at_
    refine ⟨_,rfl,_,rfl,z0,_,_,_,rfl,rfl,TZ,rfl,_,rfl,z0,_,_,_,rfl,rfl,TZ,rfl,_,_,rfl,rfl,⟨hb,bb0⟩,_,_,rfl,rfl,_,_,rfl,?_⟩
    have A0 : t0 / b0 ≤ (if t0 / b0 + 1 < n then t0 / b0 + 1 else n) ∧ (if t0 / b0 + 1 < n then t0 / b0 + 1 else n) ≤ t0 / b0 + 1 ∧ (if t0 / b0 + 1 < n then t0 / b0 + 1 else n) ≤ n ∧ (t0 / b0 < n → (if t0 / b0 + 1 < n then t0 / b0 + 1 else n) = t0 / b0 + 1) := by
      split <;> omega
    generalize (if t0 / b0 + 1 < n then t0 / b0 + 1 else n) = at1 at *
    obtain ⟨A1,A2,A3,A4⟩ := A0
    refine ⟨_,rfl,sz (by simp),fun zs H3 s3 f3 n3 => ?_⟩
    have dS : Dp H3 zs at1 1 n wy := ⟨f3,⟨by decide,Int.gcd_one⟩,by omega,by omega,bits_le (bits_small (by omega) (by omega)) (by decide),by decide,fun _ => rfl⟩
    have shS : shareB t0 b0 at1 1 = true := share_of (k := t0 / b0) hb (by decide) g1 (by omega) (by omega) (by omega)
    have hpS : wy = wHops → at1 - t0 ≤ 1 := fun z => by
      have e := d0.hop z
      subst e
      rw [Int.ediv_one] at A2
      omega
    have b3 : But p H H3 := But.of s3
    have p3 := pt.same s3
    refine ⟨_,rfl,rfl,_,rfl,ite3 (fun h1 => ?_) (fun h1 => ?_)⟩
    · have hw : ¬ wy = wHops := dec_f (ds (show decide (V.str wy = V.str (Str.ofString "hops")) = false by simpa only [Bool.not_eq_true'] using h1))
      refine ⟨_,rfl,_,_,rfl,rfl,_,rfl,ite3 (fun h2 => ?_) (fun h2 => ?_)⟩
      · refine ⟨_,rfl,_,rfl,sz (by simp),fun t2 H4 s4 f4 _ => ?_⟩
        have B4 := b3.trans (But.of (p := p) s4)
        have p4 := p3.same s4
        have d4 := d0.t' (B4.t pt)
        refine ⟨z0,t2,[t0,b0],[n,1],rfl,rfl,SqT.of d4.at_,SqT.of f4,_,rfl,?_⟩
        show if (!decide ([t0,b0] = [n,1])) = true then _ else _
        refine ite3 (fun h5 => ?_) (fun h5 => ?_)
        · have h5 : ¬ [t0,b0] = [n,1] := of_decide_eq_false (by simpa only [Bool.not_eq_true'] using h5)
          have hlt : t0 / b0 < n := by
            by_cases c : t0 / b0 = n
            · obtain ⟨e1,e2⟩ := fl_full d0.low d0.n1 c
              rw [e1,e2] at h5
              exact absurd rfl h5
            · omega
          have e4 := A4 hlt
          refine ⟨_,rfl,p,_,_,rfl,p4,by omega,⟨by decide,by decide⟩,fun r1 H5 _ _ b5 p5 => ?_⟩
          have B5 := B4.trans b5
          refine ⟨rfl,_,rfl,ite3 (fun h3 => ?_) (fun h3 => ?_)⟩
          · refine ⟨_,rfl,_,rfl,_,_,rfl,rfl,p,_,_,rfl,p5,by omega,⟨by omega,by omega⟩,fun z t b H6 lw j1 j2 bt bb b6 f6 p6 => ?_⟩
            have hbz := lw.pos
            have ea : at1 - 1 = t0 / b0 := by omega
            rw [ea] at j1 j2
            have m0 : 0 ≤ t0 / b0 * b := Int.mul_nonneg f0 (by omega)
            have m1 : (t0 / b0 + 1) * b ≤ n * b := Int.mul_le_mul_of_nonneg_right (by omega) (by omega)
            exact rd4 H6 _ z t b ⟨f6,lw,by omega,by omega,bt,bb,fun z => absurd z hw⟩ (share_of (k := t0 / b0) hb (by omega) g1 (by omega) j1 j2) (fun z => absurd z hw) (B5.trans b6) (p6.mono (by omega))
          · exact rd4 H5 _ zs at1 1 ((dS.t' s4.t).t' (b5.t p4)) shS hpS B5 (p5.mono (by omega))
        · exact rd4 H4 _ zs at1 1 (dS.t' s4.t) shS hpS B4 (p4.mono (by omega))
      · exact rd4 H3 _ zs at1 1 dS shS hpS b3 (p3.mono (by omega))
    · exact rd4 H3 _ zs at1 1 dS shS hpS b3 (p3.mono (by omega))
structure Fp (H : Hp) (v : Pr) (n m : Int) (wy : Str) : Prop where
  e : H v.p = some (.tup [.ref v.x,.ref v.y])
  dx : Dp H v.x v.a v.b n wy
  dy : Dp H v.y v.c v.d m wy
  fr : wy = wFree → v.b = 1 ∨ v.d = 1
theorem Fp.t {H H' : Hp} {v : Pr} {n m : Int} {wy : Str} (h : Fp H v n m wy) (s : SameT H H') : Fp H' v n m wy := ⟨s _ _ h.e,h.dx.t' s,h.dy.t' s,h.fr⟩
theorem may_keepX {wy : Str} {u v : Pr} (h1 : u.b = 1) (e1 : v.a = u.a) (e2 : v.b = u.b) (sh : shareB u.c u.d v.c v.d = true) (hp : wy = wHops → u.c - v.c ≤ 1) : mayB wy u v = true := by
  have k : keepX u v = true := by
    unfold keepX
    rw [e1,e2,sh,decide_eq_true rfl,decide_eq_true h1]
    rfl
  unfold mayB slideB
  rw [k]
  by_cases h : wy = wHops
  · rw [if_pos h]
    unfold asideB
    rw [decide_eq_true (show v.a - u.a ≤ 0 by omega),decide_eq_true (hp h)]
    rfl
  · rw [if_neg h]
    by_cases hf : wy = wFree
    · rw [if_pos hf]; rfl
    · rw [if_neg hf]; simp
theorem may_keepY {wy : Str} {u v : Pr} (h1 : u.d = 1) (e1 : v.c = u.c) (e2 : v.d = u.d) (sh : shareB u.a u.b v.a v.b = true) (hp : wy = wHops → v.a - u.a ≤ 1) : mayB wy u v = true := by
  have k : keepY u v = true := by
    unfold keepY
    rw [e1,e2,sh,decide_eq_true rfl,decide_eq_true h1]
    rfl
  unfold mayB slideB
  rw [k]
  by_cases h : wy = wHops
  · rw [if_pos h]
    unfold asideB
    rw [decide_eq_true (hp h),decide_eq_true (show u.c - v.c ≤ 0 by omega)]
    simp
  · rw [if_neg h]
    by_cases hf : wy = wFree
    · rw [if_pos hf]; simp
    · rw [if_neg hf]; simp
theorem may_back {wy : Str} {u v : Pr} (hf : ¬ wy = wFree) (h1 : ¬ u.a * v.b < v.a * u.b) (h2 : ¬ v.c * u.d < u.c * v.d) (hp : wy = wHops → u.b = 1 ∧ u.d = 1 ∧ v.b = 1 ∧ v.d = 1) : mayB wy u v = true := by
  unfold mayB
  by_cases h : wy = wHops
  · obtain ⟨a1,a2,a3,a4⟩ := hp h
    rw [a1,a3] at h1
    rw [a2,a4] at h2
    rw [if_pos h]
    unfold asideB
    rw [decide_eq_true (show v.a - u.a ≤ 0 by omega),decide_eq_true (show u.c - v.c ≤ 1 by omega)]
    rfl
  · rw [if_neg h,if_neg hf]
    unfold backB ltB
    rw [decide_eq_false h1,decide_eq_false h2]
    rfl
inductive spNext (vs : List V) (H : Hp) (Q : VK) (x_3 : XK) : Prop
  | mk : ∀ (p : Addr) (u : Pr) (n m k : Int) (wy : Str),(vs = [.ref p,.ref u.p,.int n,.int m,.str wy]) → (Pot H p k) → (k ≤ 600000) → ((0 ≤ n ∧ n ≤ 50)) → ((0 ≤ m ∧ m ≤ 50)) → (Fp H u n m wy) → (∀ (v : Pr) (H' : Hp),Fp H' v n m wy → mayB wy u v = true → But p H H' → Pot H' p (k + 50) → Q (.ref v.p) H') → spNext vs H Q x_3
theorem S_law_next : FnScope ["pot","pair","n","m","way","x","y","turn"] ["pot","pair","n","m","way"] (defScope (top 91)) := ⟨rfl,rfl,rfl,by decide +kernel,rfl,by decide +kernel,by decide +kernel⟩
theorem fn_law_next (D_law_next : Df K mg "_law_next" (top 91)) (F_law_take : Fn P w K mg base "_law_take" ["pot","size"] 1 Dr.spTk) (F_law_any : Fn P w K mg base "_law_any" ["pot","last","way"] 4 spAny) (F_law_lesser : Fn P w K mg base "_law_lesser" ["one","other"] 2 (spPick fun a b c d => ltB c d a b)) (F_law_greater : Fn P w K mg base "_law_greater" ["one","other"] 2 (spPick fun a b c d => ltB a b c d)) (F_law_down : Fn P w K mg base "_law_down" ["pot","y","way"] 4 spDown) (F_law_over : Fn P w K mg base "_law_over" ["pot","x","last","way"] 4 spOver) : Fn P w K mg base "_law_next" ["pot","pair","n","m","way"] 5 spNext := by
  refine D_law_next.fn S_law_next (fun _ _ _ _ _ _ us hl => by obtain ⟨_,_,_,_,_,rfl⟩ := len5 hl; rfl) (fun vs H Q E h => ?_) (fun f cdv A outer s H vs Q E hr h => ?_)
  · obtain ⟨p,u,n,m,k,wy,rfl,_⟩ := h
    rfl
  · obtain ⟨p,u,n,m,k,wy,rfl,pt,hk,⟨hn0,hn1⟩,⟨hm0,hm1⟩,fu,q⟩ := h
    have ub : (0 : Int) < u.b := fu.dx.low.pos
    have ud : (0 : Int) < u.d := fu.dy.low.pos
    have sX : shareB u.a u.b u.a u.b = true := share_of (k := u.a / u.b) ub ub (fl_le ub) (by have := fl_lt (a := u.a) ub; omega) (fl_le ub) (by have := fl_lt (a := u.a) ub; omega)
    have sY : shareB u.c u.d u.c u.d = true := share_of (k := u.c / u.d) ud ud (fl_le ud) (by have := fl_lt (a := u.c) ud; omega) (fl_le ud) (by have := fl_lt (a := u.c) ud; omega)
    have R7 : ∃ p7,PSs (cxOf CX0 P w K mg base ["pot","pair","n","m","way","x","y","turn"] "_law_next" (defScope (top 91)) f cdv A outer s H E).nox ((defBody (top 91)).drop 7) p7 ∧ ∀ (tn : Int) (H2 : Hp),But p H H2 → Pot H2 p (k + 1) → p7 { nx := fun _ H' => Q .non H',rt := Q } [some (.ref p),some (.ref u.p),some (.int n),some (.int m),some (.str wy),some (.ref u.x),some (.ref u.y),some (.int tn)] H2 := by
      refine ⟨_,(pss_one (ps_ret (pv 1))),fun tn H2 b2 p2 => ?_⟩
      have f2 := fu.t (b2.t pt)
      have X2 := SqT.of (K := K) f2.dx.at_
      have Y2 := SqT.of (K := K) f2.dy.at_
      refine ⟨_,rfl,q u H2 f2 ?_ b2 (p2.mono (by omega))⟩
      by_cases hf : wy = wFree
      · have nh : ¬ wy = wHops := fun z => absurd (z.symm.trans hf) (by decide)
        rcases fu.fr hf with h1 | h1
        · exact may_keepX h1 rfl rfl sY (fun z => absurd z nh)
        · exact may_keepY h1 rfl rfl sX (fun z => absurd z nh)
      · exact may_back hf (by omega) (by omega) fun z => ⟨fu.dx.hop z,fu.dy.hop z,fu.dx.hop z,fu.dy.hop z⟩
    obtain ⟨p7,hp7,rd7⟩ := R7
    have R6 : ∃ p6,PSs (cxOf CX0 P w K mg base ["pot","pair","n","m","way","x","y","turn"] "_law_next" (defScope (top 91)) f cdv A outer s H E).nox ((defBody (top 91)).drop 6) p6 ∧ ∀ (tn : Int) (H2 : Hp),But p H H2 → Pot H2 p (k + 1) → p6 { nx := fun _ H' => Q .non H',rt := Q } [some (.ref p),some (.ref u.p),some (.int n),some (.int m),some (.str wy),some (.ref u.x),some (.ref u.y),some (.int tn)] H2 := by
      refine ⟨_,pss_cons (ps_if (pw_and (pt_cmpR op_eq (pe_ix ix_tup (pv 6) pe_int (fun _ _ => rfl)) pe_int (nomark _)) (pw_and1 (pt_cmpR op_eq (pv 4) pe_str (nomark _)))).pt (pss_one (ps_ret (pe_tupA (pa_cons (pe_fn F_law_down (hr.mono (by decide)) (by rfl) (pa_cons (pv 0) (pa_cons (pv 5) (pa_cons (pv 4) pa_nil)))) (pa_cons (pv 6) pa_nil))))) pss_nil) hp7,fun tn H2 b2 p2 => ?_⟩
      have f2 := fu.t (b2.t pt)
      have X2 := SqT.of (K := K) f2.dx.at_
      have Y2 := SqT.of (K := K) f2.dy.at_
      refine ⟨_,rfl,u.y,_,_,_,rfl,rfl,Y2,rfl,rfl,_,rfl,?_⟩
      rw [di]
      refine ite3 (fun h1 => ?_) (fun h1 => ?_)
      · have h1 : u.d = 1 := dec_t h1
        refine ⟨_,rfl,rfl,_,rfl,ite3 (fun c3 => ?_) (fun c3 => ?_)⟩
        · refine ⟨_,rfl,_,rfl,_,rfl,p,u.x,_,_,n,_,_,rfl,p2,by omega,⟨hn0,hn1⟩,f2.dx,fun z t b H3 d3 sh hp b3 p3 => ?_⟩
          refine ⟨_,rfl,sz (by simp),fun pp H4 s4 f4 _ => ?_⟩
          exact q ⟨pp,z,u.y,t,b,u.c,u.d⟩ H4 ⟨f4,d3.t' s4.t,(f2.dy.t' (b3.t p2)).t' s4.t,fun _ => .inr h1⟩ (may_keepY h1 rfl rfl sh (fun z => absurd (z.symm.trans (show wy = wFree from dec_t (ds c3))) (by decide))) (b2.trans (b3.trans (But.of s4))) ((p3.same s4).mono (by omega))
        · exact rd7 tn H2 b2 p2
      · exact rd7 tn H2 b2 p2
    obtain ⟨p6,hp6,rd6⟩ := R6
    have R5 : ∃ p5,PSs (cxOf CX0 P w K mg base ["pot","pair","n","m","way","x","y","turn"] "_law_next" (defScope (top 91)) f cdv A outer s H E).nox ((defBody (top 91)).drop 5) p5 ∧ ∀ (tn : Int) (H2 : Hp),But p H H2 → Pot H2 p (k + 1) → p5 { nx := fun _ H' => Q .non H',rt := Q } [some (.ref p),some (.ref u.p),some (.int n),some (.int m),some (.str wy),some (.ref u.x),some (.ref u.y),some (.int tn)] H2 := by
      refine ⟨_,pss_cons (ps_if (pw_and (pt_cmpR op_eq (pe_ix ix_tup (pv 6) pe_int (fun _ _ => rfl)) pe_int (nomark _)) (pw_and1 (pt_cmpR op_gt (pv 7) pe_int (nomark _)))).pt (pss_one (ps_ret (pe_tupA (pa_cons (pe_fn F_law_over (hr.mono (by decide)) (by rfl) (pa_cons (pv 0) (pa_cons (pv 5) (pa_cons (pv 2) (pa_cons (pv 4) pa_nil))))) (pa_cons (pv 6) pa_nil))))) pss_nil) hp6,fun tn H2 b2 p2 => ?_⟩
      have f2 := fu.t (b2.t pt)
      have X2 := SqT.of (K := K) f2.dx.at_
      have Y2 := SqT.of (K := K) f2.dy.at_
      refine ⟨_,rfl,u.y,_,_,_,rfl,rfl,Y2,rfl,rfl,_,rfl,?_⟩
      rw [di]
      refine ite3 (fun h1 => ?_) (fun h1 => ?_)
      · have h1 : u.d = 1 := dec_t h1
        refine ⟨_,rfl,_,_,rfl,rfl,_,rfl,ite3 (fun c3 => ?_) (fun c3 => ?_)⟩
        · refine ⟨_,rfl,_,rfl,_,rfl,_,rfl,p,u.x,_,_,n,_,_,rfl,p2,by omega,⟨hn0,hn1⟩,f2.dx,fun z t b H3 d3 sh hp b3 p3 => ?_⟩
          refine ⟨_,rfl,sz (by simp),fun pp H4 s4 f4 _ => ?_⟩
          exact q ⟨pp,z,u.y,t,b,u.c,u.d⟩ H4 ⟨f4,d3.t' s4.t,(f2.dy.t' (b3.t p2)).t' s4.t,fun _ => .inr h1⟩ (may_keepY h1 rfl rfl sh hp) (b2.trans (b3.trans (But.of s4))) ((p3.same s4).mono (by omega))
        · exact rd6 tn H2 b2 p2
      · exact rd6 tn H2 b2 p2
    obtain ⟨p5,hp5,rd5⟩ := R5
    have R4 : ∃ p4,PSs (cxOf CX0 P w K mg base ["pot","pair","n","m","way","x","y","turn"] "_law_next" (defScope (top 91)) f cdv A outer s H E).nox ((defBody (top 91)).drop 4) p4 ∧ ∀ (tn : Int) (H2 : Hp),But p H H2 → Pot H2 p (k + 1) → p4 { nx := fun _ H' => Q .non H',rt := Q } [some (.ref p),some (.ref u.p),some (.int n),some (.int m),some (.str wy),some (.ref u.x),some (.ref u.y),some (.int tn)] H2 := by
      refine ⟨_,pss_cons (ps_if (pw_and (pt_cmpR op_eq (pe_ix ix_tup (pv 5) pe_int (fun _ _ => rfl)) pe_int (nomark _)) (pw_and (pt_cmpR op_eq (pv 7) pe_int (nomark _)) (pw_and1 (pt_cmpR op_eq (pv 4) pe_str (nomark _))))).pt (pss_one (ps_ret (pe_tupA (pa_cons (pv 5) (pa_cons (pe_fn F_law_over (hr.mono (by decide)) (by rfl) (pa_cons (pv 0) (pa_cons (pv 6) (pa_cons (pv 3) (pa_cons (pv 4) pa_nil))))) pa_nil))))) pss_nil) hp5,fun tn H2 b2 p2 => ?_⟩
      have f2 := fu.t (b2.t pt)
      have X2 := SqT.of (K := K) f2.dx.at_
      have Y2 := SqT.of (K := K) f2.dy.at_
      refine ⟨_,rfl,u.x,_,_,_,rfl,rfl,X2,rfl,rfl,_,rfl,?_⟩
      rw [di]
      refine ite3 (fun h1 => ?_) (fun h1 => ?_)
      · have h1 : u.b = 1 := dec_t h1
        refine ⟨_,rfl,rfl,_,rfl,ite3 (fun c2 => ?_) (fun c2 => ?_)⟩
        · refine ⟨_,rfl,rfl,_,rfl,ite3 (fun c3 => ?_) (fun c3 => ?_)⟩
          · refine ⟨_,rfl,_,rfl,_,rfl,_,rfl,_,rfl,p,u.y,_,_,m,_,_,rfl,p2,by omega,⟨hm0,hm1⟩,f2.dy,fun z t b H3 d3 sh hp b3 p3 => ?_⟩
            refine ⟨sz (by simp),fun pp H4 s4 f4 _ => ?_⟩
            exact q ⟨pp,u.x,z,u.a,u.b,t,b⟩ H4 ⟨f4,(f2.dx.t' (b3.t p2)).t' s4.t,d3.t' s4.t,fun _ => .inl h1⟩ (may_keepX h1 rfl rfl sh (fun z => absurd (z.symm.trans (show wy = wFree from dec_t (ds c3))) (by decide))) (b2.trans (b3.trans (But.of s4))) ((p3.same s4).mono (by omega))
          · exact rd5 tn H2 b2 p2
        · exact rd5 tn H2 b2 p2
      · exact rd5 tn H2 b2 p2
    obtain ⟨p4,hp4,rd4⟩ := R4
    have R3 : ∃ p3,PSs (cxOf CX0 P w K mg base ["pot","pair","n","m","way","x","y","turn"] "_law_next" (defScope (top 91)) f cdv A outer s H E).nox ((defBody (top 91)).drop 3) p3 ∧ ∀ (tn : Int) (H2 : Hp),But p H H2 → Pot H2 p (k + 1) → p3 { nx := fun _ H' => Q .non H',rt := Q } [some (.ref p),some (.ref u.p),some (.int n),some (.int m),some (.str wy),some (.ref u.x),some (.ref u.y),some (.int tn)] H2 := by
      refine ⟨_,pss_cons (ps_if (pw_and (pt_cmpR op_eq (pe_ix ix_tup (pv 5) pe_int (fun _ _ => rfl)) pe_int (nomark _)) (pw_and1 (pw_or (pt_cmpR op_eq (pv 7) pe_int (nomark _)) (pw_or1 (pt_cmpR op_gt (pe_ix ix_tup (pv 6) pe_int (fun _ _ => rfl)) pe_int (nomark _)))).pt)).pt (pss_one (ps_ret (pe_tupA (pa_cons (pv 5) (pa_cons (pe_fn F_law_down (hr.mono (by decide)) (by rfl) (pa_cons (pv 0) (pa_cons (pv 6) (pa_cons (pv 4) pa_nil)))) pa_nil))))) pss_nil) hp4,fun tn H2 b2 p2 => ?_⟩
      have f2 := fu.t (b2.t pt)
      have X2 := SqT.of (K := K) f2.dx.at_
      have Y2 := SqT.of (K := K) f2.dy.at_
      refine ⟨_,rfl,u.x,_,_,_,rfl,rfl,X2,rfl,rfl,_,rfl,?_⟩
      rw [di]
      refine ite3 (fun h1 => ?_) (fun h1 => ?_)
      · have h1 : u.b = 1 := dec_t h1
        refine ⟨_,rfl,rfl,_,rfl,ite3 (fun c2 => ?_) (fun c2 => ?_)⟩
        · refine ⟨_,rfl,_,rfl,_,rfl,_,rfl,p,u.y,_,_,m,_,_,rfl,p2,by omega,⟨hm0,hm1⟩,f2.dy,fun z t b H3 d3 sh hp b3 p3 => ?_⟩
          refine ⟨sz (by simp),fun pp H4 s4 f4 _ => ?_⟩
          exact q ⟨pp,u.x,z,u.a,u.b,t,b⟩ H4 ⟨f4,(f2.dx.t' (b3.t p2)).t' s4.t,d3.t' s4.t,fun _ => .inl h1⟩ (may_keepX h1 rfl rfl sh hp) (b2.trans (b3.trans (But.of s4))) ((p3.same s4).mono (by omega))
        · refine ⟨_,rfl,u.y,_,_,_,rfl,rfl,Y2,rfl,_,_,rfl,rfl,_,rfl,ite3 (fun c3 => ?_) (fun c3 => ?_)⟩
          · refine ⟨_,rfl,_,rfl,_,rfl,_,rfl,p,u.y,_,_,m,_,_,rfl,p2,by omega,⟨hm0,hm1⟩,f2.dy,fun z t b H3 d3 sh hp b3 p3 => ?_⟩
            refine ⟨sz (by simp),fun pp H4 s4 f4 _ => ?_⟩
            exact q ⟨pp,u.x,z,u.a,u.b,t,b⟩ H4 ⟨f4,(f2.dx.t' (b3.t p2)).t' s4.t,d3.t' s4.t,fun _ => .inl h1⟩ (may_keepX h1 rfl rfl sh hp) (b2.trans (b3.trans (But.of s4))) ((p3.same s4).mono (by omega))
          · exact rd4 tn H2 b2 p2
      · exact rd4 tn H2 b2 p2
    obtain ⟨p3,hp3,rd3⟩ := R3
    refine ⟨_,(pss_cons (ps_asg (pv 1) (pg_tup rfl (pgs_cons (pg_name (i := 5) S_law_next.nd rfl (Or.inl rfl)) (pgs_cons (pg_name (i := 6) S_law_next.nd rfl (Or.inl rfl)) pgs_nil)))) (pss_cons (ps_set (i := 7) S_law_next.nd rfl (Or.inl rfl) (pe_fn F_law_take (hr.mono (by decide)) (by rfl) (pa_cons (pv 0) (pa_cons pe_int pa_nil)))) (pss_cons (ps_if (pw_and (pt_cmpR op_ne (pv 4) pe_str (nomark _)) (pw_and1 (pw_or (pt_cmpR op_eq (pv 7) pe_int (nomark _)) (pw_or1 (pw_and (pt_cmpR op_gt (pe_ix ix_tup (pv 5) pe_int (fun _ _ => rfl)) pe_int (nomark _)) (pw_and1 (pt_cmpR op_gt (pe_ix ix_tup (pv 6) pe_int (fun _ _ => rfl)) pe_int (nomark _)))).pt)).pt)).pt (pss_one (ps_ret (pe_tupA (pa_cons (pe_fn F_law_lesser (hr.mono (by decide)) (by rfl) (pa_cons (pv 5) (pa_cons (pe_fn F_law_any (hr.mono (by decide)) (by rfl) (pa_cons (pv 0) (pa_cons (pv 2) (pa_cons (pv 4) pa_nil)))) pa_nil))) (pa_cons (pe_fn F_law_greater (hr.mono (by decide)) (by rfl) (pa_cons (pv 6) (pa_cons (pe_fn F_law_any (hr.mono (by decide)) (by rfl) (pa_cons (pv 0) (pa_cons (pv 3) (pa_cons (pv 4) pa_nil)))) pa_nil))) pa_nil))))) pss_nil) hp3))),?_⟩
    refine ⟨_,rfl,u.p,_,rfl,SqT.of fu.e,rfl,_,_,rfl,_,_,rfl,rfl,?_⟩
    refine ⟨_,rfl,p,_,_,rfl,pt,by omega,⟨by decide,by decide⟩,fun tn H2 tn0 tn1 b2 p2 => ?_⟩
    have f2 := fu.t (b2.t pt)
    have X2 := SqT.of (K := K) f2.dx.at_
    have Y2 := SqT.of (K := K) f2.dy.at_
    refine ⟨_,rfl,rfl,_,rfl,ite3 (fun c1 => ?_) (fun c1 => ?_)⟩
    · have hf : ¬ wy = wFree := dec_f (ds (show decide (V.str wy = V.str (Str.ofString "free")) = false by simpa only [Bool.not_eq_true'] using c1))
      refine ⟨_,rfl,rfl,_,rfl,ite3 (fun c2 => ?_) (fun c2 => ?_)⟩
      · refine ⟨_,rfl,_,rfl,_,rfl,_,rfl,p,n,_,_,rfl,p2,by omega,⟨hn0,hn1⟩,fun z1 t1 b1 H3 d1 b3 p3 => ?_⟩
        have f3 := f2.t (b3.t p2)
        refine ⟨u.x,z1,u.a,u.b,t1,b1,rfl,f3.dx.at_,d1.at_,⟨bits_le f3.dx.bt (by decide),bits_le f3.dx.bb (by decide),bits_le d1.bt (by decide),bits_le d1.bb (by decide)⟩,?_⟩
        obtain ⟨zx,tx,bx,ez,dxx,hx⟩ : ∃ (zx : Addr) (tx bx : Int),(if ltB t1 b1 u.a u.b = true then z1 else u.x) = zx ∧ Dp H3 zx tx bx n wy ∧ ¬ u.a * bx < tx * u.b := by
          split
          · rename_i hh
            exact ⟨z1,t1,b1,rfl,d1,by have := dec_t hh; omega⟩
          · exact ⟨u.x,u.a,u.b,rfl,f3.dx,by omega⟩
        dsimp only
        rw [ez]
        refine ⟨_,rfl,_,rfl,_,rfl,_,rfl,p,m,_,_,rfl,p3,by omega,⟨hm0,hm1⟩,fun z2 t2 b2' H4 d2 b4 p4 => ?_⟩
        have f4 := f3.t (b4.t p3)
        refine ⟨u.y,z2,u.c,u.d,t2,b2',rfl,f4.dy.at_,d2.at_,⟨bits_le f4.dy.bt (by decide),bits_le f4.dy.bb (by decide),bits_le d2.bt (by decide),bits_le d2.bb (by decide)⟩,?_⟩
        obtain ⟨zy,ty,by_,ey,dyy,hy⟩ : ∃ (zy : Addr) (ty by_ : Int),(if ltB u.c u.d t2 b2' = true then z2 else u.y) = zy ∧ Dp H4 zy ty by_ m wy ∧ ¬ ty * u.d < u.c * by_ := by
          split
          · rename_i hh
            exact ⟨z2,t2,b2',rfl,d2,by have := dec_t hh; omega⟩
          · exact ⟨u.y,u.c,u.d,rfl,f4.dy,by omega⟩
        dsimp only
        rw [ey]
        refine ⟨sz (by simp),fun pp H5 s5 f5 _ => ?_⟩
        exact q ⟨pp,zx,zy,tx,bx,ty,by_⟩ H5 ⟨f5,(dxx.t' (b4.t p3)).t' s5.t,dyy.t' s5.t,fun z => absurd z hf⟩ (may_back hf hx hy fun z => ⟨fu.dx.hop z,fu.dy.hop z,dxx.hop z,dyy.hop z⟩) (b2.trans (b3.trans (b4.trans (But.of s5)))) ((p4.same s5).mono (by omega))
      refine ⟨_,rfl,u.x,_,_,_,rfl,rfl,X2,rfl,_,_,rfl,rfl,_,rfl,ite3 (fun c3 => ?_) (fun c3 => ?_)⟩
      · refine ⟨_,rfl,u.y,_,_,_,rfl,rfl,Y2,rfl,_,_,rfl,rfl,_,rfl,ite3 (fun c4 => ?_) (fun c4 => ?_)⟩
        · refine ⟨_,rfl,_,rfl,_,rfl,_,rfl,p,n,_,_,rfl,p2,by omega,⟨hn0,hn1⟩,fun z1 t1 b1 H3 d1 b3 p3 => ?_⟩
          have f3 := f2.t (b3.t p2)
          refine ⟨u.x,z1,u.a,u.b,t1,b1,rfl,f3.dx.at_,d1.at_,⟨bits_le f3.dx.bt (by decide),bits_le f3.dx.bb (by decide),bits_le d1.bt (by decide),bits_le d1.bb (by decide)⟩,?_⟩
          obtain ⟨zx,tx,bx,ez,dxx,hx⟩ : ∃ (zx : Addr) (tx bx : Int),(if ltB t1 b1 u.a u.b = true then z1 else u.x) = zx ∧ Dp H3 zx tx bx n wy ∧ ¬ u.a * bx < tx * u.b := by
            split
            · rename_i hh
              exact ⟨z1,t1,b1,rfl,d1,by have := dec_t hh; omega⟩
            · exact ⟨u.x,u.a,u.b,rfl,f3.dx,by omega⟩
          dsimp only
          rw [ez]
          refine ⟨_,rfl,_,rfl,_,rfl,_,rfl,p,m,_,_,rfl,p3,by omega,⟨hm0,hm1⟩,fun z2 t2 b2' H4 d2 b4 p4 => ?_⟩
          have f4 := f3.t (b4.t p3)
          refine ⟨u.y,z2,u.c,u.d,t2,b2',rfl,f4.dy.at_,d2.at_,⟨bits_le f4.dy.bt (by decide),bits_le f4.dy.bb (by decide),bits_le d2.bt (by decide),bits_le d2.bb (by decide)⟩,?_⟩
          obtain ⟨zy,ty,by_,ey,dyy,hy⟩ : ∃ (zy : Addr) (ty by_ : Int),(if ltB u.c u.d t2 b2' = true then z2 else u.y) = zy ∧ Dp H4 zy ty by_ m wy ∧ ¬ ty * u.d < u.c * by_ := by
            split
            · rename_i hh
              exact ⟨z2,t2,b2',rfl,d2,by have := dec_t hh; omega⟩
            · exact ⟨u.y,u.c,u.d,rfl,f4.dy,by omega⟩
          dsimp only
          rw [ey]
          refine ⟨sz (by simp),fun pp H5 s5 f5 _ => ?_⟩
          exact q ⟨pp,zx,zy,tx,bx,ty,by_⟩ H5 ⟨f5,(dxx.t' (b4.t p3)).t' s5.t,dyy.t' s5.t,fun z => absurd z hf⟩ (may_back hf hx hy fun z => ⟨fu.dx.hop z,fu.dy.hop z,dxx.hop z,dyy.hop z⟩) (b2.trans (b3.trans (b4.trans (But.of s5)))) ((p4.same s5).mono (by omega))
        · exact rd3 tn H2 b2 p2
      · exact rd3 tn H2 b2 p2
    · exact rd3 tn H2 b2 p2
theorem mr_i0 {f : Int → Int → V} : MR (rI0 f) := fun x y H Q Q' hq ⟨i,j,e1,e2,k⟩ => ⟨i,j,e1,e2,hq _ _ k⟩
theorem mr_ixT {K : PySem.W.Frag} : MR (rIxT K) := fun x y H Q Q' hq ⟨p,xs,i,v,e1,e2,h,a,k⟩ => ⟨p,xs,i,v,e1,e2,h,a,hq _ _ k⟩
structure FI (H : Hp) (n m : Int) (wy : Str) (ps : List Pr) (q : Pr) : Prop where
  all : ∀ r ∈ ps ++ [q],Fp H r n m wy
  st : fstepsB wy (ps ++ [q]) = true
theorem fsteps_join {w : Str} {v : Pr} {ys : List Pr} : ∀ xs : List Pr,fstepsB w (xs ++ [v]) = true → fstepsB w (v :: ys) = true → fstepsB w (xs ++ v :: ys) = true
  | [],_,h => h
  | [a],h,g => by
    have h' : (mayB w a v && fstepsB w [v]) = true := h
    rw [Bool.and_eq_true] at h'
    show (mayB w a v && fstepsB w (v :: ys)) = true
    rw [h'.1,g]
    rfl
  | a :: b :: r,h,g => by
    have h' : (mayB w a b && fstepsB w (b :: r ++ [v])) = true := h
    rw [Bool.and_eq_true] at h'
    show (mayB w a b && fstepsB w (b :: r ++ v :: ys)) = true
    rw [h'.1,fsteps_join (b :: r) h'.2 g]
    rfl
theorem FI.last {H : Hp} {n m : Int} {wy : Str} {ps : List Pr} {q : Pr} (F : FI H n m wy ps q) : Fp H q n m wy := F.all q (by simp)
theorem FI.t {H H' : Hp} {n m : Int} {wy : Str} {ps : List Pr} {q : Pr} (F : FI H n m wy ps q) (s : SameT H H') : FI H' n m wy ps q := ⟨fun r hr => (F.all r hr).t s,F.st⟩
theorem FI.step {H H' : Hp} {n m : Int} {wy : Str} {ps : List Pr} {q r : Pr} (F : FI H n m wy ps q) (s : SameT H H') (fr : Fp H' r n m wy) (h : mayB wy q r = true) : FI H' n m wy (ps ++ [q]) r := by
  refine ⟨fun z hz => ?_,?_⟩
  · rcases List.mem_append.mp hz with hz | hz
    · exact (F.all z hz).t s
    · rw [List.mem_singleton.mp hz]
      exact fr
  · rw [List.append_assoc]
    refine fsteps_join ps F.st ?_
    show (mayB wy q r && fstepsB wy [r]) = true
    rw [h]
    rfl
theorem FI.pairs {H : Hp} {l : Addr} {n m : Int} {wy : Str} {ps : List Pr} {q : Pr} (F : FI H n m wy ps q) (e : H l = some (.lst (prs (ps ++ [q])))) : PairsAt H l (ps ++ [q]) := ⟨e,fun r hr => (Dp.pr (F.all r hr).e (F.all r hr).dx (F.all r hr).dy).1⟩
theorem FI.join {H : Hp} {n m : Int} {wy : Str} {ps qs xs : List Pr} {q v : Pr} (F : FI H n m wy ps q) (G : FI H n m wy qs v) (e : q :: xs = qs ++ [v]) : FI H n m wy (ps ++ qs) v := by
  have h := F.st
  have g := G.st
  rw [← e] at g
  refine ⟨fun z hz => ?_,?_⟩
  · rw [List.append_assoc] at hz
    rcases List.mem_append.mp hz with hz | hz
    · exact F.all z (by simp [hz])
    · exact G.all z hz
  · rw [List.append_assoc,← e]
    exact fsteps_join ps h g
theorem Fp.self {H : Hp} {n m : Int} {wy : Str} {q : Pr} (f : Fp H q n m wy) : mayB wy q q = true := by
  have ub : (0 : Int) < q.b := f.dx.low.pos
  have ud : (0 : Int) < q.d := f.dy.low.pos
  have sX : shareB q.a q.b q.a q.b = true := share_of (k := q.a / q.b) ub ub (fl_le ub) (by have := fl_lt (a := q.a) ub; omega) (fl_le ub) (by have := fl_lt (a := q.a) ub; omega)
  have sY : shareB q.c q.d q.c q.d = true := share_of (k := q.c / q.d) ud ud (fl_le ud) (by have := fl_lt (a := q.c) ud; omega) (fl_le ud) (by have := fl_lt (a := q.c) ud; omega)
  by_cases hf : wy = wFree
  · have nh : ¬ wy = wHops := fun z => absurd (z.symm.trans hf) (by decide)
    rcases f.fr hf with h1 | h1
    · exact may_keepX h1 rfl rfl sY (fun z => absurd z nh)
    · exact may_keepY h1 rfl rfl sX (fun z => absurd z nh)
  · exact may_back hf (by omega) (by omega) fun z => ⟨f.dx.hop z,f.dy.hop z,f.dx.hop z,f.dy.hop z⟩
structure GoodF (n m : Int) (w : Str) (ps : List Pr) : Prop where
  fence : fenceB n m w ps = true
  self : ∀ q ∈ ps,mayB w q q = true
theorem fenceB_of {n m : Int} {w : Str} {L : List Pr} : fenceB n m w L = true ↔ ∃ f l,L.head? = some f ∧ L.getLast? = some l ∧ L.all (inB n m) = true ∧ (if w = wHops then L.all wholeB else true) = true ∧ fendsB n m w f l = true ∧ fstepsB w L = true := by
  cases L with
  | nil => simp [fenceB]
  | cons f r =>
    rw [fenceB_cons,Bool.and_eq_true,Bool.and_eq_true,Bool.and_eq_true]
    constructor
    · rintro ⟨h1,h2,h3,h4⟩
      exact ⟨f,_,rfl,List.getLast?_eq_some_getLast (by simp),h1,h2,h3,h4⟩
    · rintro ⟨f',l,e1,e2,h1,h2,h3,h4⟩
      cases e1
      rw [List.getLast?_eq_some_getLast (by simp)] at e2
      cases e2
      exact ⟨h1,h2,h3,h4⟩
theorem FI.good {H : Hp} {n m : Int} {wy : Str} {qs : List Pr} {v : Pr} (F : FI H n m wy qs v) (h1 : ∀ f,(qs ++ [v]).head? = some f → e1B m wy f = true) (h2 : e2B n wy v = true) : GoodF n m wy (qs ++ [v]) := by
  refine ⟨fenceB_of.mpr ?_,fun q hq => (F.all q hq).self⟩
  have hi : (qs ++ [v]).all (inB n m) = true := List.all_eq_true.mpr fun q hq => (Dp.pr (F.all q hq).e (F.all q hq).dx (F.all q hq).dy).2.1
  have hw : (if wy = wHops then (qs ++ [v]).all wholeB else true) = true := by
    by_cases z : wy = wHops
    · rw [if_pos z]
      refine List.all_eq_true.mpr fun q hq => ?_
      unfold wholeB
      rw [(F.all q hq).dx.hop z,(F.all q hq).dy.hop z]
      rfl
    · rw [if_neg z]
  cases ef : (qs ++ [v]).head? with
  | none => simp at ef
  | some f =>
    refine ⟨f,v,rfl,by simp,hi,hw,?_,F.st⟩
    rw [fends_eq,h1 f ef,h2]
    rfl
theorem at_snoc (qs : List Pr) (v : Pr) : atI (prs (qs ++ [v])) (-1) = some (.ref v.p) := by
  cases qs with
  | nil => exact at_lastP v []
  | cons f r =>
    have h := at_lastP f (r ++ [v])
    have e : (f :: (r ++ [v])).getLast (List.cons_ne_nil _ _) = v := getLast_snoc (ps := f :: r) _
    rw [e] at h
    exact h
def muD (H : Hp) (z : V) : Nat := match z with
  | .ref p => match H p with
    | some (.tup [.int t,.int b]) => ((t - 1) / b + 1).toNat
    | _ => 0
  | _ => 0
theorem muD_of {H : Hp} {z : Addr} {t b : Int} (e : H z = some (.tup [.int t,.int b])) : muD H (.ref z) = ((t - 1) / b + 1).toNat := by simp only [muD,e]
inductive spEnded (vs : List V) (H : Hp) (Q : VK) (x_3 : XK) : Prop
  | mk : ∀ (u : Pr) (n m : Int) (wy : Str),(vs = [.ref u.p,.int n,.str wy]) → ((0 ≤ n ∧ n ≤ 50)) → ((0 ≤ m ∧ m ≤ 20)) → (Fp H u n m wy) → (∀ (l : Addr) (qs ps : List Pr) (v : Pr) (H' : Hp),u :: ps = qs ++ [v] → H' l = some (.lst (prs ps)) → FI H' n m wy qs v → v.c = 0 ∧ v.d = 1 → ps.length ≤ 30 → H l = none → Same H H' → Q (.ref l) H') → spEnded vs H Q x_3
inductive spDFence (vs : List V) (H : Hp) (Q : VK) (x_3 : XK) : Prop
  | mk : ∀ (p : Addr) (n m k : Int) (w : Str),(vs = [.ref p,.int n,.int m,.str w]) → (Pot H p k) → (k ≤ 400000) → ((0 ≤ n ∧ n ≤ 20)) → ((0 ≤ m ∧ m ≤ 20)) → (∀ (l : Addr) (ps : List Pr) (H' : Hp),PairsAt H' l ps → GoodF n m w ps → ps.length ≤ 60 → H l = none → But p H H' → Pot H' p (k + 500) → Q (.ref l) H') → spDFence vs H Q x_3
theorem S_law_ended : FnScope ["pair","n","way","x","y","more"] ["pair","n","way"] (defScope (top 92)) := ⟨rfl,rfl,rfl,by decide +kernel,rfl,by decide +kernel,by decide +kernel⟩
theorem fn_law_ended (D_law_ended : Df K mg "_law_ended" (top 92)) (T : Txt mg) : Fn P w K mg base "_law_ended" ["pair","n","way"] 2 spEnded := by
  refine D_law_ended.fn S_law_ended (fun _ _ _ _ _ _ us hl => by obtain ⟨_,_,_,rfl⟩ := len3 hl; rfl) (fun vs H Q E h => ?_) (fun f cdv A outer s H vs Q E hr h => ?_)
  · obtain ⟨u,n,m,wy,rfl,_⟩ := h
    rfl
  · obtain ⟨u,n,m,wy,rfl,⟨hn0,hn1⟩,⟨hm0,hm1⟩,fu,q⟩ := h
    have R : ∃ u',PSs (cxOf CX0 P w K mg base ["pair","n","way","x","y","more"] "_law_ended" (defScope (top 92)) f cdv A outer s H E).nox ((defBody (top 92)).drop 3) u' ∧ ∀ (H3 : Hp) (l : Addr) (v : Pr) (qs ps : List Pr),Same H H3 → H l = none → H3 l = some (.lst (prs ps)) → FI H3 n m wy qs v → u :: ps = qs ++ [v] → v.b = 1 → ps.length ≤ 1 → u' { nx := fun _ H' => Q .non H',rt := Q } [some (.ref u.p),some (.int n),some (.str wy),some (.ref v.x),some (.ref v.y),some (.ref l)] H3 := by
      refine ⟨_,(pss_cons (ps_while PassesOwn.never (pt_cmpR op_gt (pe_ix ix_tup (pv 4) pe_int (fun _ _ => rfl)) pe_int (nomark _)) (pss_cons (ps_set (i := 4) S_law_ended.nd rfl (Or.inl rfl) (pe_tupA (pa_cons (pe_op op_fdivP (pe_op op_sub (pe_ix ix_tup (pv 4) pe_int (fun _ _ => rfl)) pe_int) (pe_ix ix_tup (pv 4) pe_int (fun _ _ => rfl))) (pa_cons pe_int pa_nil)))) (pss_one (ps_expr (pe_bm PySem.F.plainAttrs_list PySem.F.slot_list_append PySem.F.type_list_append mt_appendA (pv 5) (pa_cons (pe_tupA (pa_cons (pv 3) (pa_cons (pv 4) pa_nil))) pa_nil)))))) (pss_one (ps_ret (pv 5)))),fun H3 l v qs ps s3 nl el fi hu hb hl => ?_⟩
      have cap : ∀ {H4 : Hp} {v : Pr},Fp H4 v n m wy → (v.c - 1) / v.d + 1 ≤ m ∧ (0 < v.c → 0 ≤ (v.c - 1) / v.d) := fun {H4 v} f => by
        have hd : (0 : Int) < v.d := f.dy.low.pos
        have h1 := f.dy.n1
        have h2 : (v.c - 1) / v.d < m := Int.ediv_lt_of_lt_mul hd (by omega)
        exact ⟨by omega,fun h => Int.ediv_nonneg (by omega) (by omega)⟩
      refine while_by (fun σ H4 => ∃ (v : Pr) (qs ps : List Pr),σ = [some (.ref u.p),some (.int n),some (.str wy),some (.ref v.x),some (.ref v.y),some (.ref l)] ∧ Same H H4 ∧ H4 l = some (.lst (prs ps)) ∧ FI H4 n m wy qs v ∧ u :: ps = qs ++ [v] ∧ v.b = 1 ∧ (ps.length : Int) + ((v.c - 1) / v.d + 1) ≤ 21)
        (fun σ H4 => match σ with | [_,_,_,_,some z,_] => muD H4 z | _ => 0)
        ⟨v,qs,ps,rfl,s3,el,fi,hu,hb,by have := (cap fi.last).1; omega⟩ ?_ ?_
      · rintro σ H4 ⟨v,qs,ps,rfl,s4,el,fi,hu,hb,hl⟩
        have fv := fi.last
        have hd : (0 : Int) < v.d := fv.dy.low.pos
        have Y := SqT.of (K := K) fv.dy.at_
        refine ⟨_,rfl,v.y,_,_,_,rfl,rfl,Y,rfl,_,_,rfl,rfl,_,rfl,ite3 (fun c1 => ?_) (fun c1 => ?_)⟩
        · have c1 : 0 < v.c := dec_t c1
          have k0 := (cap fv).2 c1
          have k1 := (cap fv).1
          have j1 := fl_le (a := v.c - 1) hd
          have j2 := fl_lt (a := v.c - 1) hd
          refine ⟨_,rfl,v.y,_,_,_,rfl,rfl,Y,rfl,_,_,rfl,rfl,_,rfl,v.y,_,_,_,rfl,rfl,Y,rfl,_,_,rfl,rfl,⟨hd,bits_le fv.dy.bb (by decide)⟩,sz (by simp),fun zy H5 s5 f5 n5 => ?_⟩
          refine ⟨_,rfl,.inl ⟨rfl,_,SqL.of (s5 _ _ el)⟩,_,rfl,_,rfl,sz (by simp),fun pp H6 s6 f6 n6 => ?_⟩
          refine ⟨l,_,_,rfl,rfl,s6 _ _ (s5 _ _ el),small1000 (by rw [prs_len]; omega),fun H7 u7 => ?_⟩
          have f5 : H5 zy = some (.tup [.int ((v.c - 1) / v.d),.int 1]) := f5
          generalize ek : (v.c - 1) / v.d = kk at *
          have s46 : SameT H4 H7 := fun a xs e => u7.t _ _ (s6 _ _ (s5 _ _ e))
          have dy7 : Dp H7 zy kk 1 m wy := ⟨u7.t _ _ (s6 _ _ f5),⟨by decide,Int.gcd_one⟩,k0,by omega,bits_le (bits_small (by omega) (by omega)) (by decide),by decide,fun _ => rfl⟩
          have f7 : Fp H7 ⟨pp,v.x,zy,v.a,v.b,kk,1⟩ n m wy := ⟨u7.t _ _ f6,fv.dx.t' s46,dy7,fun _ => .inl hb⟩
          have j3 : v.c ≤ (kk + 1) * v.d := by omega
          have sh : shareB v.c v.d kk 1 = true := share_of (k := kk) hd (by decide) (by omega) j3 (by omega) (by omega)
          have hm : mayB wy v ⟨pp,v.x,zy,v.a,v.b,kk,1⟩ = true := may_keepX hb rfl rfl sh (fun z => by
            have e := fv.dy.hop z
            rw [e,Int.ediv_one] at ek
            show v.c - kk ≤ 1
            omega)
          refine ⟨⟨⟨pp,v.x,zy,v.a,v.b,kk,1⟩,qs ++ [v],ps ++ [⟨pp,v.x,zy,v.a,v.b,kk,1⟩],rfl,u7.same (s4.trans (s5.trans s6)) nl,by rw [u7.now]; unfold prs; rw [List.map_append]; rfl,fi.step s46 f7 hm,?_,hb,?_⟩,?_⟩
          · rw [← hu]; rfl
          · rw [List.length_append]
            simp only [List.length_cons,List.length_nil]
            show ((ps.length + 1 : Nat) : Int) + ((kk - 1) / 1 + 1) ≤ 21
            rw [Int.ediv_one]
            omega
          · show muD H7 (.ref zy) < muD H4 (.ref v.y)
            rw [muD_of f7.dy.at_,muD_of fv.dy.at_,ek]
            show ((kk - 1) / 1 + 1).toNat < _
            rw [Int.ediv_one]
            omega
        · have c1 : ¬ 0 < v.c := dec_f c1
          have c0 : v.c = 0 := by have := fv.dy.n0; omega
          have d1 : v.d = 1 := by
            have h := fv.dy.low.one
            rw [c0,Int.gcd_zero_left] at h
            omega
          exact ⟨_,rfl,q l qs ps v H4 hu el fi ⟨c0,d1⟩ (by have := (cap fv).1; rw [c0,d1] at hl; omega) nl s4⟩
      · exact mt_test (me_op mr_i0 (me_op mr_ixT me_var me_c) me_c)
    obtain ⟨u',hu',fin⟩ := R
    refine ⟨_,(pss_cons (ps_asg (pv 0) (pg_tup rfl (pgs_cons (pg_name (i := 3) S_law_ended.nd rfl (Or.inl rfl)) (pgs_cons (pg_name (i := 4) S_law_ended.nd rfl (Or.inl rfl)) pgs_nil)))) (pss_cons (ps_set (i := 5) S_law_ended.nd rfl (Or.inl rfl) (pe_lstA pa_nil)) (pss_cons (ps_if (pt_cmpR op_gt (pe_ix ix_tup (pv 3) pe_int (fun _ _ => rfl)) pe_int (nomark _)) (@pss_cons _ _ _ _ _ (@ps_set _ _ 3 _ _ _ _ S_law_ended.nd rfl (Or.inl rfl) (@pe_ix _ _ _ _ _ _ _ ix_list (@pe_lstA _ _ _ _ (@pa_cons _ _ _ _ _ (@pe_tupA _ _ _ _ _ (@pa_cons _ _ _ _ _ (pe_op op_fdivP (pe_ix ix_tup (pv 3) pe_int (fun _ _ => rfl)) (pe_ix ix_tup (pv 3) pe_int (fun _ _ => rfl))) (@pa_cons _ _ _ _ _ pe_int pa_nil (by rfl)) (by rfl))) (@pa_cons _ _ _ _ _ (@pe_tupA _ _ _ _ _ (@pa_cons _ _ _ _ _ (pe_op op_add (pe_op op_fdivP (pe_ix ix_tup (pv 3) pe_int (fun _ _ => rfl)) (pe_ix ix_tup (pv 3) pe_int (fun _ _ => rfl))) pe_int) (@pa_cons _ _ _ _ _ pe_int pa_nil (by rfl)) (by rfl))) pa_nil (by rfl)) (by rfl))) (pe_callTy call_int1 (by rfl) T.z_int bt_int (pa_cons (pe_cmpR op_eq (pv 2) pe_str (nomark _)) pa_nil)) (fun _ _ => rfl)) (by rfl) (by first | exact .inl rfl | exact .inr rfl | assumption)) (pss_one (ps_expr (pe_bm PySem.F.plainAttrs_list PySem.F.slot_list_append PySem.F.type_list_append mt_appendA (pv 5) (pa_cons (pe_tupA (pa_cons (pv 3) (pa_cons (pv 4) pa_nil))) pa_nil))))) pss_nil) hu'))),?_⟩
    have ub : (0 : Int) < u.b := fu.dx.low.pos
    have ud : (0 : Int) < u.d := fu.dy.low.pos
    refine ⟨_,rfl,u.p,_,rfl,SqT.of fu.e,rfl,_,_,rfl,_,_,rfl,rfl,?_⟩
    refine ⟨sz (by simp),fun l H1 s1 f1 n1 => ?_⟩
    have fu1 := fu.t s1.t
    have X1 := SqT.of (K := K) fu1.dx.at_
    refine ⟨_,rfl,u.x,_,_,_,rfl,rfl,X1,rfl,_,_,rfl,rfl,_,rfl,ite3 (fun c1 => ?_) (fun c1 => ?_)⟩
    · have c1 : 1 < u.b := dec_t c1
      have nb : u.b ≠ 1 := by omega
      have nh : ¬ wy = wHops := fun z => nb (fu.dx.hop z)
      have bb : bits u.b ≤ 8000 := bits_le fu.dx.bb (by decide)
      have j1 := fl_le (a := u.a) ub
      have j2 := fl_lt (a := u.a) ub
      have k0 := fl_nn ub fu.dx.n0
      have k1 := fl_le_n ub fu.dx.n1
      have k2 : u.a / u.b < n := by
        by_cases c : u.a / u.b = n
        · exact absurd (fl_full fu.dx.low fu.dx.n1 c).2 nb
        · omega
      have go : ∀ (H5 : Hp) (z : Addr) (t : Int),Same H1 H5 → H5 z = some (.tup [.int t,.int 1]) → 0 ≤ t → t ≤ n → (∀ pp,mayB wy u ⟨pp,z,u.y,t,1,u.c,u.d⟩ = true) → (tSeq (tDrop (tBM K "list" rAppendA (tVar 5) (tCons (tTupA (tCons (tVar 3) (tCons (tVar 4) tNil))) tNil))) u') { nx := fun _ H' => Q .non H',rt := Q } [some (.ref u.p),some (.int n),some (.str wy),some (.ref z),some (.ref u.y),some (.ref l)] H5 := by
        intro H5 z t s5 e5 t0 t1 hm
        refine ⟨_,rfl,.inl ⟨rfl,_,SqL.of (s5 _ _ f1)⟩,_,rfl,_,rfl,sz (by simp),fun pp H6 s6 f6 n6 => ?_⟩
        refine ⟨l,_,_,rfl,rfl,s6 _ _ (s5 _ _ f1),small1000 (by simp),fun H7 u7 => ?_⟩
        have s17 : SameT H1 H7 := fun a xs e => u7.t _ _ (s6 _ _ (s5 _ _ e))
        have fu7 := fu1.t s17
        have dx7 : Dp H7 z t 1 n wy := ⟨u7.t _ _ (s6 _ _ e5),⟨by decide,Int.gcd_one⟩,t0,by omega,bits_le (bits_small (by omega) (by omega)) (by decide),by decide,fun _ => rfl⟩
        have f7 : Fp H7 ⟨pp,z,u.y,t,1,u.c,u.d⟩ n m wy := ⟨u7.t _ _ f6,dx7,fu7.dy,fun _ => .inl rfl⟩
        have fi : FI H7 n m wy [] u := ⟨fun r hr => by rw [List.mem_singleton.mp hr]; exact fu7,rfl⟩
        exact fin H7 l ⟨pp,z,u.y,t,1,u.c,u.d⟩ [u] [⟨pp,z,u.y,t,1,u.c,u.d⟩] (u7.same (s1.trans (s5.trans s6)) n1) n1 (by rw [u7.now]; rfl) (fi.step (fun _ _ e => e) f7 (hm pp)) rfl rfl (by simp)
      refine ⟨_,rfl,u.x,_,_,_,rfl,rfl,X1,rfl,_,rfl,u.x,_,_,_,rfl,rfl,X1,rfl,_,_,rfl,rfl,⟨ub,bb⟩,sz (by simp),fun t1 H2 s2 f2 n2 => ?_⟩
      have X2 := SqT.of (K := K) (s2 _ _ fu1.dx.at_)
      refine ⟨_,rfl,u.x,_,_,_,rfl,rfl,X2,rfl,_,rfl,u.x,_,_,_,rfl,rfl,X2,rfl,_,_,rfl,rfl,⟨ub,bb⟩,_,_,rfl,rfl,sz (by simp),fun t2 H3 s3 f3 n3 => ?_⟩
      refine ⟨sz (by simp),fun lm H4 s4 f4 n4 => ?_⟩
      refine ⟨_,rfl,rfl,.inr ⟨_,rfl,?_⟩⟩
      have S4 : Same H1 H4 := s2.trans (s3.trans s4)
      by_cases hf : wy = wFree
      · have ed : decide (V.str wy = V.str (Str.ofString "free")) = true := decide_eq_true (by rw [hf]; rfl)
        rw [ed]
        refine ⟨lm,_,_,_,rfl,rfl,SqL.of f4,rfl,?_⟩
        have hd : u.d = 1 := by
          rcases fu.fr hf with h | h
          · exact absurd h nb
          · exact h
        have sh : shareB u.a u.b (u.a / u.b + 1) 1 = true := share_of (k := u.a / u.b) ub (by decide) j1 (by omega) (by omega) (by omega)
        exact go H4 t2 (u.a / u.b + 1) S4 (s4 _ _ f3) (by omega) (by omega) fun pp => may_keepY hd rfl rfl sh fun z => absurd z nh
      · have ed : decide (V.str wy = V.str (Str.ofString "free")) = false := decide_eq_false (fun z => hf (by cases z; rfl))
        rw [ed]
        refine ⟨lm,_,_,_,rfl,rfl,SqL.of f4,rfl,?_⟩
        exact go H4 t1 (u.a / u.b) S4 (s4 _ _ (s3 _ _ f2)) (by omega) (by omega) fun pp => may_back hf (by show ¬ u.a * 1 < u.a / u.b * u.b; omega) (by show ¬ u.c * u.d < u.c * u.d; omega) fun z => absurd z nh
    · have hb1 : u.b = 1 := by have := dec_f c1; omega
      exact fin H1 l u [] [] s1 n1 f1 ⟨fun r hr => by rw [List.mem_singleton.mp hr]; exact fu1,rfl⟩ rfl hb1 (by simp)
theorem S_law_drawn_fence : FnScope ["pot","n","m","way","pair","fence","turn"] ["pot","n","m","way"] (defScope (top 93)) := ⟨rfl,rfl,rfl,by decide +kernel,rfl,by decide +kernel,by decide +kernel⟩
theorem fn_law_drawn_fence (D_law_drawn_fence : Df K mg "_law_drawn_fence" (top 93)) (F_law_take : Fn P w K mg base "_law_take" ["pot","size"] 1 Dr.spTk) (F_law_any : Fn P w K mg base "_law_any" ["pot","last","way"] 4 spAny) (F_law_next : Fn P w K mg base "_law_next" ["pot","pair","n","m","way"] 5 spNext) (F_law_ended : Fn P w K mg base "_law_ended" ["pair","n","way"] 2 spEnded) (T : Txt mg) : Fn P w K mg base "_law_drawn_fence" ["pot","n","m","way"] 6 spDFence := by
  refine D_law_drawn_fence.fn S_law_drawn_fence (fun _ _ _ _ _ _ us hl => by obtain ⟨_,_,_,_,rfl⟩ := len4 hl; rfl) (fun vs H Q E h => ?_) (fun f cdv A outer s H vs Q E hr h => ?_)
  · obtain ⟨p,n,m,k,wy,rfl,_⟩ := h
    rfl
  · obtain ⟨p,n,m,k,wy,rfl,pt,hk,⟨hn0,hn1⟩,⟨hm0,hm1⟩,q⟩ := h
    have R : ∃ u',PSs (cxOf CX0 P w K mg base ["pot","n","m","way","pair","fence","turn"] "_law_drawn_fence" (defScope (top 93)) f cdv A outer s H E).nox ((defBody (top 93)).drop 2) u' ∧ ∀ (v : Pr) (H1 : Hp),Fp H1 v n m wy → e1B m wy v = true → But p H H1 → Pot H1 p (k + 45) → u' { nx := fun _ H' => Q .non H',rt := Q } [some (.ref p),some (.int n),some (.int m),some (.str wy),some (.ref v.p),none,none] H1 := by
      refine ⟨_,(pss_cons (ps_set (i := 5) S_law_drawn_fence.nd rfl (Or.inl rfl) (pe_lstA (pa_cons (pv 4) pa_nil))) (pss_cons (ps_for PassesOwn.never rfl (pi_range1 rfl T.z_range (pa_cons (pe_fn F_law_take (hr.mono (by decide)) (by rfl) (pa_cons (pv 0) (pa_cons pe_int pa_nil))) pa_nil)) (pg_name (i := 6) S_law_drawn_fence.nd rfl (Or.inl rfl)) (pss_one (ps_expr (pe_bm PySem.F.plainAttrs_list PySem.F.slot_list_append PySem.F.type_list_append mt_appendA (pv 5) (pa_cons (pe_fn F_law_next (hr.mono (by decide)) (by rfl) (pa_cons (pv 0) (pa_cons (pe_ix ix_list (pv 5) (pe_un un_neg pe_int) (fun _ _ => rfl)) (pa_cons (pv 1) (pa_cons (pv 2) (pa_cons (pv 3) pa_nil)))))) pa_nil))))) (pss_cons (ps_if (pw_or (pt_cmpR op_eq (pv 3) pe_str (nomark _)) (pw_or1 (pt_cmpR (op_neI hr.units0) (pe_ix ix_tup (pe_ix ix_list (pv 5) (pe_un un_neg pe_int) (fun _ _ => rfl)) pe_int (fun _ _ => rfl)) (pe_tupA (pa_cons (pv 1) (pa_cons pe_int pa_nil))) (nomark _)))).pt (pss_one (ps_set (i := 5) S_law_drawn_fence.nd rfl (Or.inl rfl) (pe_op op_catA (pv 5) (pe_fn F_law_ended (hr.mono (by decide)) (by rfl) (pa_cons (pe_ix ix_list (pv 5) (pe_un un_neg pe_int) (fun _ _ => rfl)) (pa_cons (pv 1) (pa_cons (pv 3) pa_nil))))))) pss_nil) (pss_one (ps_ret (pv 5)))))),fun v H1 f1 hv b1 p1 => ?_⟩
      refine ⟨_,rfl,sz (by simp),fun l H3 s3 f3 n3 => ?_⟩
      have p3 := p1.same s3
      have npl := Pot.ne p1 n3
      have nl : H l = none := b1.none npl n3
      have b3 : But p H H3 := b1.trans (But.of s3)
      refine ⟨_,rfl,p,_,_,rfl,p3,by omega,⟨by decide,by decide⟩,fun r4 H4 a4 b4' b4 p4 => ?_⟩
      refine ⟨_,rfl,by omega,by omega,?_⟩
      refine for_range (n := r4.toNat) (lo := 0) (fun i σ H5 => ∃ (qs : List Pr) (w : Pr) (z7 : Option V),σ = [some (.ref p),some (.int n),some (.int m),some (.str wy),some (.ref v.p),some (.ref l),z7] ∧ H5 l = some (.lst (prs (qs ++ [w]))) ∧ FI H5 n m wy qs w ∧ (∀ f,(qs ++ [w]).head? = some f → e1B m wy f = true) ∧ qs.length = i ∧ But p H H5 ∧ Pot H5 p (k + 50 + 50 * (i : Int)))
        ⟨[],v,_,rfl,b4 _ _ npl f3,⟨fun r hr => by rw [List.mem_singleton.mp hr]; exact (f1.t s3.t).t (b4.t p3),rfl⟩,fun f hf => by cases hf; exact hv,rfl,b3.trans b4,p4.mono (by omega)⟩ ?_ ?_
      · rintro i σ H5 hi ⟨qs,w,z7,rfl,e5,F5,hd5,hl,b5,p5⟩
        refine ⟨_,rfl,.inl ⟨rfl,_,SqL.of e5⟩,_,rfl,_,rfl,_,rfl,l,_,_,_,rfl,rfl,SqL.of e5,at_snoc qs w,_,rfl,_,rfl,_,rfl,p,w,n,m,_,wy,rfl,p5,by omega,⟨hn0,by omega⟩,⟨hm0,by omega⟩,F5.last,fun r H6 f6 h6 b6 p6 => ?_⟩
        have e6 := b6 _ _ npl e5
        refine ⟨l,_,_,rfl,rfl,e6,small1000 (by rw [prs_len,List.length_append]; simp only [List.length_cons,List.length_nil]; omega),fun H7 u7 => ?_⟩
        refine ⟨qs ++ [w],r,_,rfl,by rw [u7.now]; unfold prs; rw [List.map_append (l₁ := qs ++ [w])]; rfl,(F5.t (b6.t p5)).step u7.t (f6.t u7.t) h6,fun f hf => hd5 f ?_,by simp [hl],fun b o nb e => ?_,?_⟩
        · cases qs with
          | nil => exact hf
          | cons a b => exact hf
        · exact u7.at (fun z => by subst z; rw [nl] at e; cases e) (b6 b o nb (b5 b o nb e))
        · obtain ⟨x,y,z,ep,rest⟩ := p6.mono (k' := k + 50 + 50 * ((i + 1 : Nat) : Int)) (by omega)
          exact ⟨x,y,z,u7.at (Ne.symm npl) ep,rest⟩
      · rintro σ H5 ⟨qs,w,z7,rfl,e5,F5,hd5,hl,b5,p5⟩
        have hq8 : qs.length ≤ 7 := by omega
        have more : ∀ (H6 : Hp),Same H5 H6 → (tSeq (tAsg (tOp rCatA (tVar 5) (tCall spEnded [] E0 (tCons (tOp (rIxL K) (tVar 5) (tUn (rU fun i => V.int (-i)) (tC (V.int 1)))) (tCons (tVar 1) (tCons (tVar 3) tNil))))) (gName 5)) (tRet (tVar 5))) { nx := fun _ H' => Q .non H',rt := Q } [some (.ref p),some (.int n),some (.int m),some (.str wy),some (.ref v.p),some (.ref l),z7] H6 := by
          intro H6 s6
          refine ⟨_,rfl,_,rfl,_,rfl,l,_,_,_,rfl,rfl,SqL.of (s6 _ _ e5),at_snoc qs w,_,rfl,_,rfl,w,n,m,wy,rfl,⟨hn0,by omega⟩,⟨hm0,hm1⟩,F5.last.t s6.t,fun l2 qs2 ps2 v2 H7 e7 el7 F7 hz hl7 n7 s7 => ?_⟩
          refine ⟨l,l2,_,_,rfl,rfl,s7 _ _ (s6 _ _ e5),el7,sz (by rw [prs_len,prs_len,List.length_append]; simp only [List.length_cons,List.length_nil]; omega),fun l3 H8 s8 f8 n8 => ?_⟩
          have F8 := FI.join (F5.t (s6.trans (s7.trans s8)).t) (F7.t s8.t) e7
          have ef : prs (qs ++ [w]) ++ prs ps2 = prs (qs ++ qs2 ++ [v2]) := by
            rw [List.append_assoc,← e7]
            unfold prs
            simp
          have B7 : But p H H7 := b5.trans (But.of (s6.trans s7))
          have p7 := p5.same (s6.trans s7)
          refine ⟨_,rfl,q l3 _ H8 (F8.pairs (by rw [← ef]; exact f8)) (F8.good (fun f hf => hd5 f ?_) ?_) ?_ (B7.none (Pot.ne p7 n8) n8) (B7.trans (But.of s8)) ((p7.same s8).mono (by omega))⟩
          · rw [List.append_assoc,← e7] at hf
            cases qs with
            | nil => exact hf
            | cons a b => exact hf
          · unfold e2B isP
            rw [hz.1,hz.2]
            simp
          · have := congrArg List.length e7
            simp only [List.length_cons,List.length_append,List.length_nil] at this ⊢
            omega
        refine ⟨_,rfl,rfl,_,rfl,ite3 (fun c1 => ?_) (fun c1 => ?_)⟩
        · exact more H5 (Same.refl _)
        refine ⟨_,rfl,_,rfl,l,_,_,_,rfl,rfl,SqL.of e5,at_snoc qs w,w.p,_,_,_,rfl,rfl,SqT.of F5.last.e,rfl,_,rfl,sz (by simp),fun t2 H6 s6 f6 _ => ?_⟩
        refine ⟨w.x,t2,[w.a,w.b],[n,1],rfl,rfl,SqT.of (s6 _ _ F5.last.dx.at_),SqT.of f6,_,rfl,?_⟩
        show if (!decide ([w.a,w.b] = [n,1])) = true then _ else _
        refine ite3 (fun c2 => ?_) (fun c2 => ?_)
        · exact more H6 s6
        have c2 : w.a = n ∧ w.b = 1 := by simpa using c2
        have c1 : ptB wy = false := ds c1
        refine ⟨_,rfl,q l _ H6 ((F5.t s6.t).pairs (s6 _ _ e5)) (F5.good hd5 ?_) ?_ nl (b5.trans (But.of s6)) ((p5.same s6).mono (by omega))⟩
        · unfold e2B isP
          rw [c1,c2.1,c2.2]
          simp
        · simp only [List.length_append,List.length_cons,List.length_nil]
          omega
    obtain ⟨u',hu',fin⟩ := R
    refine ⟨_,(pss_cons (ps_set (i := 4) S_law_drawn_fence.nd rfl (Or.inl rfl) (@pe_tupA _ _ _ _ _ (@pa_cons _ _ _ _ _ (pe_fn F_law_any (hr.mono (by decide)) (by rfl) (pa_cons (pv 0) (pa_cons (pv 1) (pa_cons (pv 3) pa_nil)))) (@pa_cons _ _ _ _ _ (@pe_tupA _ _ _ _ _ (@pa_cons _ _ _ _ _ (pv 2) (@pa_cons _ _ _ _ _ pe_int pa_nil (by rfl)) (by rfl))) pa_nil (by rfl)) (by rfl)))) (pss_cons (ps_if (pw_and (pt_cmpR op_ne (pv 3) pe_str (nomark _)) (pw_and1 (pt_cmpR op_eq (pe_fn F_law_take (hr.mono (by decide)) (by rfl) (pa_cons (pv 0) (pa_cons pe_int pa_nil))) pe_int (nomark _)))).pt (pss_one (ps_set (i := 4) S_law_drawn_fence.nd rfl (Or.inl rfl) (@pe_tupA _ _ _ _ _ (@pa_cons _ _ _ _ _ (@pe_tupA _ _ _ _ _ (@pa_cons _ _ _ _ _ pe_int (@pa_cons _ _ _ _ _ pe_int pa_nil (by rfl)) (by rfl))) (@pa_cons _ _ _ _ _ (pe_fn F_law_any (hr.mono (by decide)) (by rfl) (pa_cons (pv 0) (pa_cons (pv 2) (pa_cons (pv 3) pa_nil)))) pa_nil (by rfl)) (by rfl))))) pss_nil) hu')),?_⟩
    refine ⟨_,rfl,_,rfl,_,rfl,p,n,_,wy,rfl,pt,by omega,⟨hn0,by omega⟩,fun z t b H1 d1 b1 p1 => ?_⟩
    refine ⟨_,rfl,sz (by simp),fun zm H2 s2 f2 _ => ?_⟩
    refine ⟨sz (by simp),fun pp H3 s3 f3 _ => ?_⟩
    have S3 : Same H1 H3 := s2.trans s3
    have p3 := p1.same S3
    have b3 : But p H H3 := b1.trans (But.of S3)
    have dm : Dp H3 zm m 1 m wy := ⟨s3 _ _ f2,⟨by decide,Int.gcd_one⟩,hm0,by omega,bits_le (bits_small (by omega) (by omega)) (by decide),by decide,fun _ => rfl⟩
    have fp : Fp H3 ⟨pp,z,zm,t,b,m,1⟩ n m wy := ⟨f3,d1.t' S3.t,dm,fun _ => .inr rfl⟩
    have ep : e1B m wy ⟨pp,z,zm,t,b,m,1⟩ = true := by
      unfold e1B isP
      simp
    refine ⟨_,rfl,rfl,_,rfl,ite3 (fun c1 => ?_) (fun c1 => ?_)⟩
    · have c1 : ptB wy = false := ds (show decide (V.str wy = V.str (Str.ofString "part")) = false by simpa only [Bool.not_eq_true'] using c1)
      refine ⟨_,rfl,p,_,_,rfl,p3,by omega,⟨by decide,by decide⟩,fun r4 H4 _ _ b4 p4 => ?_⟩
      refine ⟨rfl,_,rfl,ite3 (fun c2 => ?_) (fun c2 => ?_)⟩
      · refine ⟨sz (by simp),fun z0 H5 s5 f5 _ => ?_⟩
        have p5 := p4.same s5
        refine ⟨_,rfl,_,rfl,_,rfl,p,m,_,wy,rfl,p5,by omega,⟨hm0,by omega⟩,fun z2 t2 b2 H6 d6 b6 p6 => ?_⟩
        refine ⟨sz (by simp),fun pq H7 s7 f7 _ => ?_⟩
        have d0 : Dp H5 z0 0 1 n wy := ⟨f5,⟨by decide,by decide⟩,by decide,by omega,by decide,by decide,fun _ => rfl⟩
        have e0 : e1B m wy ⟨pq,z0,z2,0,1,t2,b2⟩ = true := by
          unfold e1B isP
          rw [c1]
          simp
        exact fin ⟨pq,z0,z2,0,1,t2,b2⟩ H7 ⟨f7,(d0.t' (b6.t p5)).t' s7.t,d6.t' s7.t,fun _ => .inl rfl⟩ e0 (b3.trans (b4.trans ((But.of s5).trans (b6.trans (But.of s7))))) ((p6.same s7).mono (by omega))
      · exact fin _ H4 (fp.t (b4.t p3)) ep (b3.trans b4) (p4.mono (by omega))
    · exact fin _ H3 fp ep b3 (p3.mono (by omega))
theorem prs_but {p l : Addr} {H H' : Hp} {ps : List Pr} {k : Int} (h : PairsAt H l ps) (b : But p H H') (pt : Pot H p k) (n : l ≠ p) : PairsAt H' l ps := ⟨b l _ n h.lst,fun q hq => (h.pr q hq).t (b.t pt)⟩
inductive spDWay (vs : List V) (H : Hp) (Q : VK) (x_3 : XK) : Prop
  | mk : ∀ (p : Addr) (k : Int),(vs = [.ref p]) → (Pot H p k) → (k ≤ 600000) → (∀ (wy : Str) (H' : Hp),isWay wy → But p H H' → Pot H' p (k + 1) → Q (.str wy) H') → spDWay vs H Q x_3
inductive spFolded (vs : List V) (H : Hp) (Q : VK) (x_3 : XK) : Prop
  | mk : ∀ (a : Addr) (cs : List Int),(vs = [.ref a,.int 3]) → (H a = some (.lst (cs.map V.int))) → (cs.length ≤ 100) → (∀ (r : Addr) (zs : List Int) (H' : Hp),H' r = some (.lst (zs.map V.int)) → Same H H' → Q (.ref r) H') → spFolded vs H Q x_3
theorem prs_inj {H : Hp} : ∀ {ps rs : List Pr},(∀ q ∈ ps,PrAt H q) → (∀ q ∈ rs,PrAt H q) → prs ps = prs rs → ps = rs
  | [],[],_,_,_ => rfl
  | [],b :: s,_,_,e => by cases e
  | a :: r,[],_,_,e => by cases e
  | a :: r,b :: s,h1,h2,e => by
    have e' : V.ref a.p :: prs r = V.ref b.p :: prs s := e
    injection e' with e1 e2
    have ih := prs_inj (fun q hq => h1 q (List.mem_cons_of_mem _ hq)) (fun q hq => h2 q (List.mem_cons_of_mem _ hq)) e2
    have ha := h1 a List.mem_cons_self
    have hb := h2 b List.mem_cons_self
    injection e1 with e1
    obtain ⟨p,x,y,a1,a2,a3,a4⟩ := a
    obtain ⟨p',x',y',b1,b2,b3,b4⟩ := b
    dsimp only at e1
    subst e1
    have q1 := ha.p_
    rw [hb.p_] at q1
    simp only [Option.some.injEq,HO.tup.injEq,List.cons.injEq,V.ref.injEq,and_true] at q1
    obtain ⟨rfl,rfl⟩ := q1
    have q2 := ha.x_
    rw [hb.x_] at q2
    have q3 := ha.y_
    rw [hb.y_] at q3
    simp only [Option.some.injEq,HO.tup.injEq,List.cons.injEq,V.int.injEq,and_true] at q2 q3
    obtain ⟨rfl,rfl⟩ := q2
    obtain ⟨rfl,rfl⟩ := q3
    rw [ih]
theorem fenceV_eq {n m : Int} {w : Str} {H : Hp} {l : Addr} {ps : List Pr} {b : Bool} (P : PairsAt H l ps) (h : fenceV n m w H (.ref l) b) : b = fenceB n m w ps := by
  rcases h with ⟨h1,rfl⟩ | ⟨l',rs,e,P',rfl⟩
  · rw [P.pv] at h1
    cases ps with
    | nil => rfl
    | cons f r =>
      rw [fenceB_cons,show (f :: r).all (inB n m) = false from h1,Bool.false_and]
  · cases e
    have e2 := P.lst
    rw [P'.lst] at e2
    have e3 : prs rs = prs ps := by injection e2 with e2; injection e2
    rw [prs_inj P'.pr P.pr e3]
theorem S_law_drawn_way : FnScope ["pot"] ["pot"] (defScope (top 94)) := ⟨rfl,rfl,rfl,by decide +kernel,rfl,by decide +kernel,by decide +kernel⟩
theorem fn_law_drawn_way (D_law_drawn_way : Df K mg "_law_drawn_way" (top 94)) (F_law_take : Fn P w K mg base "_law_take" ["pot","size"] 1 Dr.spTk) : Fn P w K mg base "_law_drawn_way" ["pot"] 2 spDWay := by
  refine D_law_drawn_way.fn S_law_drawn_way (fun _ _ _ _ _ _ us hl => by obtain ⟨_,rfl⟩ := len1 hl; rfl) (fun vs H Q E h => ?_) (fun f cdv A outer s H vs Q E hr h => ?_)
  · obtain ⟨p,k,rfl,_⟩ := h
    rfl
  · obtain ⟨p,k,rfl,pt,hk,q⟩ := h
    refine ⟨_,(pss_one (ps_ret (pe_ix ix_list (pe_lstA (pa_cons pe_str (pa_cons pe_str (pa_cons pe_str (pa_cons pe_str pa_nil))))) (pe_fn F_law_take (hr.mono (by decide)) (by rfl) (pa_cons (pv 0) (pa_cons pe_int pa_nil))) (fun _ _ => rfl)))),?_⟩
    refine ⟨sz (by simp),fun lw H1 s1 f1 n1 => ?_⟩
    have np1 := Pot.ne pt n1
    refine ⟨_,rfl,p,_,_,rfl,pt.same s1,by omega,⟨by decide,by decide⟩,fun r2 H2 a2 b2' b2 p2 => ?_⟩
    refine menu (b2 _ _ np1 f1) a2 (by simpa using b2') fun v hv => ?_
    have B2 : But p H H2 := (But.of s1).trans b2
    simp only [List.mem_cons,List.not_mem_nil,or_false] at hv
    rcases hv with rfl | rfl | rfl | rfl
    · exact q _ H2 (.inl rfl) B2 p2
    · exact q _ H2 (.inr (.inl rfl)) B2 p2
    · exact q _ H2 (.inr (.inr (.inl rfl))) B2 p2
    · exact q _ H2 (.inr (.inr (.inr rfl))) B2 p2
theorem S_law_folded : FnScope ["cells","many","found","k","cell"] ["cells","many"] (defScope (top 71)) := ⟨rfl,rfl,rfl,by decide +kernel,rfl,by decide +kernel,by decide +kernel⟩
theorem fn_law_folded (D_law_folded : Df K mg "_law_folded" (top 71)) (T : Txt mg) : Fn P w K mg base "_law_folded" ["cells","many"] 1 spFolded := by
  refine D_law_folded.fn S_law_folded (fun _ _ _ _ _ _ us hl => by obtain ⟨_,_,rfl⟩ := len2 hl; rfl) (fun vs H Q E h => ?_) (fun f cdv A outer s H vs Q E hr h => ?_)
  · obtain ⟨a,cs,rfl,_⟩ := h
    rfl
  · obtain ⟨a,cs,rfl,ea,hc,q⟩ := h
    refine ⟨_,(pss_cons (ps_set (i := 2) S_law_folded.nd rfl (Or.inl rfl) (pe_op op_repA (pe_lstA (pa_cons pe_int pa_nil)) (pe_callB (call_min2 rfl) (by rfl) T.z_min bt_min (pa_cons (pv 1) (pa_cons (pe_callB (call_max2 rfl) (by rfl) T.z_max bt_max (pa_cons pe_int (pa_cons (pe_callB call_len_seq (by rfl) T.z_len bt_len (pa_cons (pv 0) pa_nil)) pa_nil))) pa_nil))))) (pss_cons (ps_for PassesOwn.never rfl (pi_enum rfl T.z_enumerate (pa_cons (pv 0) pa_nil)) (pg_tup rfl (pgs_cons (pg_name (i := 3) S_law_folded.nd rfl (Or.inl rfl)) (pgs_cons (pg_name (i := 4) S_law_folded.nd rfl (Or.inl rfl)) pgs_nil))) (pss_one (ps_asg (pe_op op_add (pe_op op_mulX (pe_ix ix_list (pv 2) (pe_op op_mod (pv 3) (pe_callB call_len_seq (by rfl) T.z_len bt_len (pa_cons (pv 2) pa_nil))) (fun _ _ => rfl)) pe_int) (pv 4)) (pg_sub (pv 2) (pe_op op_mod (pv 3) (pe_callB call_len_seq (by rfl) T.z_len bt_len (pa_cons (pv 2) pa_nil))) set_listA)))) (pss_one (ps_ret (pv 2))))),?_⟩
    have e63 : (2 : Int) ^ 63 = 9223372036854775808 := by decide
    have hcl : (cs.map V.int).length = cs.length := List.length_map _
    refine ⟨sz (by simp),fun c1 H1 s1 f1 n1 => ?_⟩
    refine ⟨_,rfl,_,rfl,a,_,rfl,.inl (SqL.of (s1 _ _ ea)),_,_,rfl,_,_,rfl,?_⟩
    have hM : 1 ≤ (if (if (((cs.map V.int).length : Nat) : Int) > 1 then (((cs.map V.int).length : Nat) : Int) else 1) < 3 then (if (((cs.map V.int).length : Nat) : Int) > 1 then (((cs.map V.int).length : Nat) : Int) else 1) else 3) ∧ (if (if (((cs.map V.int).length : Nat) : Int) > 1 then (((cs.map V.int).length : Nat) : Int) else 1) < 3 then (if (((cs.map V.int).length : Nat) : Int) > 1 then (((cs.map V.int).length : Nat) : Int) else 1) else 3) ≤ 3 := by
      split <;> split <;> omega
    generalize (if (if (((cs.map V.int).length : Nat) : Int) > 1 then (((cs.map V.int).length : Nat) : Int) else 1) < 3 then (if (((cs.map V.int).length : Nat) : Int) > 1 then (((cs.map V.int).length : Nat) : Int) else 1) else 3) = M at hM
    refine ⟨c1,_,_,rfl,rfl,f1,by rw [e63]; omega,by rw [e63]; omega,sz (by simp; omega),fun r H2 s2 f2 n2 => ?_⟩
    rw [List.flatten_replicate_singleton,show List.replicate M.toNat (V.int 0) = (List.replicate M.toNat 0).map V.int from List.map_replicate.symm] at f2
    have nr : H r = none := s1.free n2
    have ea2 := (s1.trans s2) _ _ ea
    have nar : a ≠ r := ne_of_none ((s1) _ _ ea) n2
    refine ⟨_,rfl,a,rfl,⟨_,SqL.of ea2⟩,for_enum (K := K) (a := a) (xs := cs.map V.int) (fun i σ H3 => ∃ (z1 z2 : Option V) (zs : List Int),σ = [some (.ref a),some (.int 3),some (.ref r),z1,z2] ∧ zs.length = M.toNat ∧ H3 r = some (.lst (zs.map V.int)) ∧ Same H H3)
      ⟨_,_,_,rfl,by simp,f2,s1.trans s2⟩ (fun i σ H3 _ ⟨_,_,_,_,_,_,s3⟩ => SqL.of (s3 _ _ ea)) ?_ ?_⟩
    · rintro i x pp σ H3 H4 hx ⟨z1,z2,zs,rfl,hz,e3,s3⟩ s4 f4
      rw [List.getElem?_map] at hx
      obtain ⟨c,hc',rfl⟩ := Option.map_eq_some_iff.mp hx
      have e4 := s4 _ _ e3
      have hzl : (((zs.map V.int).length : Nat) : Int) = M := by rw [List.length_map,hz]; omega
      have m0 := Int.emod_nonneg (i : Int) (show M ≠ 0 by omega)
      have m1 := Int.emod_lt_of_pos (i : Int) (show 0 < M by omega)
      refine ⟨pp,_,rfl,SqT.of f4,rfl,_,_,rfl,_,_,rfl,rfl,?_⟩
      refine ⟨_,rfl,_,rfl,_,rfl,r,_,rfl,.inl (SqL.of e4),_,_,rfl,rfl,by rw [hzl]; omega,?_⟩
      rw [hzl]
      refine ⟨r,_,_,_,rfl,rfl,SqL.of e4,at_int ((i : Int) % M).toNat (by omega) (by omega),_,_,rfl,rfl,CM.r ⟨by decide,by decide⟩,_,rfl,_,_,rfl,rfl,?_⟩
      refine ⟨_,rfl,_,rfl,_,rfl,r,_,rfl,.inl (SqL.of e4),_,_,rfl,rfl,by rw [hzl]; omega,?_⟩
      rw [hzl]
      refine ⟨r,_,_,_,rfl,rfl,e4,ixN_of m0 (by rw [hzl]; exact m1),fun H5 u => ?_⟩
      exact ⟨_,_,zs.set ((i : Int) % M).toNat (zs[((i : Int) % M).toNat]'(by omega) * 7 + c),rfl,by rw [List.length_set]; exact hz,by rw [u.now,← List.map_set],u.same (s3.trans s4) nr⟩
    · rintro σ H3 ⟨z1,z2,zs,rfl,hz,e3,s3⟩
      exact ⟨_,rfl,q r zs H3 e3 s3⟩
theorem sqD_pos {b d : Int} (hb : 0 < b) (hd : 0 < d) : 0 < sqD b d := Int.mul_pos (Int.mul_pos hb hd) (Int.mul_pos hb hd)
structure Frs (H : Hp) (l : Addr) (fs : Crn) : Prop where
  lst : H l = some (.lst (fs.map fun q => V.ref q.1))
  fr : ∀ q ∈ fs,H q.1 = some (.tup [.int q.2.1,.int q.2.2]) ∧ 0 < q.2.2 ∧ bits q.2.1 ≤ 2200 ∧ bits q.2.2 ≤ 2200
theorem Frs.mono {H H' : Hp} {l : Addr} {fs : Crn} (L : Frs H l fs) (s : Same H H') : Frs H' l fs := ⟨s _ _ L.lst,fun q h => ⟨s _ _ (L.fr q h).1,(L.fr q h).2⟩⟩
def leF (p q : Addr × Int × Int) : Prop := p.2.1 * q.2.2 ≤ q.2.1 * p.2.2
theorem leF_trans {p q r : Addr × Int × Int} (hq : 0 < q.2.2) (hp : 0 < p.2.2) (hr : 0 < r.2.2) (h1 : leF p q) (h2 : leF q r) : leF p r := by
  unfold leF at *
  refine Int.le_of_mul_le_mul_left (a := q.2.2) ?_ hq
  have a1 : p.2.1 * q.2.2 * r.2.2 ≤ q.2.1 * p.2.2 * r.2.2 := Int.mul_le_mul_of_nonneg_right h1 (by omega)
  have a2 : q.2.1 * r.2.2 * p.2.2 ≤ r.2.1 * q.2.2 * p.2.2 := Int.mul_le_mul_of_nonneg_right h2 (by omega)
  have e1 : q.2.2 * (p.2.1 * r.2.2) = p.2.1 * q.2.2 * r.2.2 := by grind
  have e2 : q.2.2 * (r.2.1 * p.2.2) = r.2.1 * q.2.2 * p.2.2 := by grind
  have e3 : q.2.1 * p.2.2 * r.2.2 = q.2.1 * r.2.2 * p.2.2 := by grind
  rw [e1,e2]
  rw [e3] at a1
  exact Int.le_trans a1 a2
theorem list_of {α β : Type} : ∀ (xs : List α) (R : Nat → α → β → Prop),(∀ i x,xs[i]? = some x → ∃ b,R i x b) → ∃ bs : List β,bs.length = xs.length ∧ ∀ i x b,xs[i]? = some x → bs[i]? = some b → R i x b
  | [],R,_ => ⟨[],rfl,fun i x b h => by simp at h⟩
  | a :: r,R,h => by
    obtain ⟨bs,hl,hb⟩ := list_of r (fun i => R (i + 1)) (fun i x hx => h (i + 1) x (by simpa using hx))
    obtain ⟨b0,h0⟩ := h 0 a rfl
    refine ⟨b0 :: bs,by simp [hl],fun i x b hx hb' => ?_⟩
    cases i with
    | zero => cases hx; cases hb'; exact h0
    | succ i => exact hb i x b (by simpa using hx) (by simpa using hb')
theorem get_ex {α β : Type} {xs : List α} {ys : List β} {i : Nat} {x : α} (hl : ys.length = xs.length) (h : xs[i]? = some x) : ∃ y,ys[i]? = some y := by
  have := (List.getElem?_eq_some_iff.mp h).1
  exact ⟨ys[i],List.getElem?_eq_getElem (by omega)⟩
theorem map_of {ys : List V} {gs : Crn} (hl : gs.length = ys.length) (h : ∀ (i : Nat) x g,ys[i]? = some x → gs[i]? = some g → x = .ref g.1) : ys = gs.map fun q => V.ref q.1 := by
  refine List.ext_getElem? fun i => ?_
  rw [List.getElem?_map]
  by_cases hi : i < ys.length
  · rw [List.getElem?_eq_getElem hi,List.getElem?_eq_getElem (show i < gs.length by omega),h i _ _ (List.getElem?_eq_getElem hi) (List.getElem?_eq_getElem (show i < gs.length by omega))]
    rfl
  · rw [List.getElem?_eq_none (by omega),List.getElem?_eq_none (by omega)]
    rfl
inductive spNoL (vs : List V) (H : Hp) (Q : VK) (x_3 : XK) : Prop
  | mk : ∀ (l : Addr) (fs : Crn),(vs = [.ref l]) → (Frs H l fs) → ((1 ≤ fs.length ∧ fs.length < 900)) → (∀ (k : Nat) (p : Addr × Int × Int) (H' : Hp),fs[k]? = some p → (∀ q ∈ fs,leF p q) → (∀ (j : Nat) q,j < k → fs[j]? = some q → ¬ leF q p) → Same H H' → Q (.int (k : Int)) H') → spNoL vs H Q x_3
theorem sm_bits {x : Int} (h : Sm x) : bits x ≤ 50 := by
  have h' : -999999999999 ≤ x ∧ x ≤ 999999999999 := h
  exact bits_of (n := 50) (by show _ < 1125899906842624; omega)
theorem _root_.Sp7.LineM.la {H : Hp} {l : Addr} {qs : Crn} (L : LineM H l qs) : LineAt H l qs := ⟨L.lst,fun q hq => ⟨(L.crn q hq).1,sm_bits (L.crn q hq).2.1,sm_bits (L.crn q hq).2.2⟩⟩
theorem _root_.Wk.PrAt.plx {H : Hp} {q : Pr} {n m : Int} (h : PrAt H q) (hi : inB n m q = true) (hn : n ≤ 100) : Plc H q.x q.a q.b n := by
  unfold inB at hi
  rw [Bool.and_eq_true,decide_eq_true_eq,decide_eq_true_eq] at hi
  have hb : 0 < q.b := h.lx.pos
  refine ⟨h.x_,h.lx,h.nx,hi.1,?_,bits_le h.bb (by decide)⟩
  have h2 : n * q.b ≤ 100 * q.b := Int.mul_le_mul_of_nonneg_right hn (by omega)
  have h3 : bits (100 * q.b) ≤ 7 + 60 := bits_mul (by decide) h.bb
  exact bits_le (bits_range h.nx (by omega) h3) (by decide)
theorem _root_.Wk.PrAt.ply {H : Hp} {q : Pr} {n m : Int} (h : PrAt H q) (hi : inB n m q = true) (hm : m ≤ 100) : Plc H q.y q.c q.d m := by
  unfold inB at hi
  rw [Bool.and_eq_true,decide_eq_true_eq,decide_eq_true_eq] at hi
  have hb : 0 < q.d := h.ly.pos
  refine ⟨h.y_,h.ly,h.ny,hi.2,?_,bits_le h.bd (by decide)⟩
  have h2 : m * q.d ≤ 100 * q.d := Int.mul_le_mul_of_nonneg_right hm (by omega)
  have h3 : bits (100 * q.d) ≤ 7 + 60 := bits_mul (by decide) h.bd
  exact bits_le (bits_range h.ny (by omega) h3) (by decide)
theorem sqF_symm (qs : Crn) (t b : Int) (rs : Crn) (t' b' : Int) : sqF qs t b rs t' b' = sqF rs t' b' qs t b := by
  unfold sqF sqN
  grind
theorem sqD_symm (b d : Int) : sqD b d = sqD d b := by
  unfold sqD
  grind
theorem chain1 {F D s w s0 w0 : Int} (hD : 0 < D) (hw0 : 0 < w0) (e : F * w0 = s0 * D) (h : s * D ≤ F * w) : s * w0 ≤ s0 * w := by
  have h1 := Int.mul_le_mul_of_nonneg_right h (show 0 ≤ w0 by omega)
  have e1 : F * w * w0 = s0 * w * D := by
    rw [show F * w * w0 = F * w0 * w by grind,e]
    grind
  refine Int.le_of_mul_le_mul_right (a := D) ?_ hD
  rw [← e1]
  rw [show s * w0 * D = s * D * w0 by grind]
  exact h1
theorem chain2 {F D s w s0 w0 : Int} (hw0 : 0 < w0) (hw : 0 < w) (hD : 0 < D) (h0 : s0 * D ≤ F * w0) (h : s * w0 ≤ s0 * w) : s * D ≤ F * w := by
  refine Int.le_of_mul_le_mul_right (a := w0) ?_ hw0
  have h1 := Int.mul_le_mul_of_nonneg_right h (show 0 ≤ D by omega)
  have h2 := Int.mul_le_mul_of_nonneg_right h0 (show 0 ≤ w by omega)
  rw [show s * D * w0 = s * w0 * D by grind,show F * w * w0 = F * w0 * w by grind]
  rw [show s0 * w * D = s0 * D * w by grind] at h1
  exact Int.le_trans h1 h2
structure MinSq (qs rs : Crn) (S : Int → Int → Int → Int → Prop) (s w : Int) : Prop where
  low : Low s w
  least : ∀ a b c d,Low a b → Low c d → S a b c d → s * sqD b d ≤ sqF qs a b rs c d * w
  att : ∃ a b c d,Low a b ∧ Low c d ∧ S a b c d ∧ sqF qs a b rs c d * w = s * sqD b d
theorem MinSq.uniq {qs rs : Crn} {S : Int → Int → Int → Int → Prop} {s w s' w' : Int} (h : MinSq qs rs S s w) (h' : MinSq qs rs S s' w') : s = s' ∧ w = w' := by
  refine low_unique h.low h'.low (Int.le_antisymm ?_ ?_)
  · obtain ⟨a,b,c,d,l1,l2,hs,e⟩ := h'.att
    exact chain1 (sqD_pos l1.pos l2.pos) h'.low.pos e (h.least a b c d l1 l2 hs)
  · obtain ⟨a,b,c,d,l1,l2,hs,e⟩ := h.att
    exact chain1 (sqD_pos l1.pos l2.pos) h.low.pos e (h'.least a b c d l1 l2 hs)
theorem MinSq.congr {qs rs : Crn} {S S' : Int → Int → Int → Int → Prop} {s w : Int} (h : MinSq qs rs S s w) (e : ∀ a b c d,Low a b → Low c d → (S a b c d ↔ S' a b c d)) : MinSq qs rs S' s w := by
  refine ⟨h.low,fun a b c d l1 l2 hs => h.least a b c d l1 l2 ((e a b c d l1 l2).mpr hs),?_⟩
  obtain ⟨a,b,c,d,l1,l2,hs,z⟩ := h.att
  exact ⟨a,b,c,d,l1,l2,(e a b c d l1 l2).mp hs,z⟩
theorem MinSq.swap {qs rs : Crn} {S : Int → Int → Int → Int → Prop} {s w : Int} (h : MinSq rs qs S s w) : MinSq qs rs (fun a b c d => S c d a b) s w := by
  refine ⟨h.low,fun a b c d l1 l2 hs => ?_,?_⟩
  · have := h.least c d a b l2 l1 hs
    rw [sqF_symm,sqD_symm]
    exact this
  · obtain ⟨a,b,c,d,l1,l2,hs,z⟩ := h.att
    refine ⟨c,d,a,b,l2,l1,hs,?_⟩
    rw [sqF_symm,sqD_symm]
    exact z
def One (t b t' b' : Int) (a b0 c d : Int) : Prop := (a = t ∧ b0 = b) ∧ c = t' ∧ d = b'
theorem min_one {qs rs : Crn} {t b t' b' s w : Int} (l : Low t b) (l' : Low t' b') (f : Frac (sqF qs t b rs t' b') (sqD b b') s w) : MinSq qs rs (One t b t' b') s w := by
  refine ⟨f.low,?_,t,b,t',b',l,l',⟨⟨rfl,rfl⟩,rfl,rfl⟩,f.eq⟩
  rintro a b0 c d _ _ ⟨⟨rfl,rfl⟩,rfl,rfl⟩
  exact Int.le_of_eq f.eq.symm
def btw (p q r s c d : Int) : Prop := (p * d ≤ c * q ∧ c * s ≤ r * d) ∨ (r * d ≤ c * s ∧ c * q ≤ p * d)
def Seg (t b l1 l2 h1 h2 : Int) (a b' c d : Int) : Prop := (a = t ∧ b' = b) ∧ l1 * d ≤ c * l2 ∧ c * h2 ≤ h1 * d
def Box (u v : Pr) (a b c d : Int) : Prop := btw u.a u.b v.a v.b a b ∧ btw u.c u.d v.c v.d c d
theorem btw_comm {p q r s c d : Int} : btw p q r s c d ↔ btw r s p q c d := Or.comm
theorem btw_le {p q r s c d : Int} (hq : 0 < q) (hs : 0 < s) (hd : 0 < d) (hle : p * s ≤ r * q) : btw p q r s c d ↔ (p * d ≤ c * q ∧ c * s ≤ r * d) := by
  refine ⟨fun h => ?_,fun h => .inl h⟩
  rcases h with h | ⟨h1,h2⟩
  · exact h
  have m := Int.mul_le_mul_of_nonneg_right hle (show 0 ≤ d by omega)
  have m1 := Int.mul_le_mul_of_nonneg_right h1 (show 0 ≤ q by omega)
  have m2 := Int.mul_le_mul_of_nonneg_right h2 (show 0 ≤ s by omega)
  constructor
  · refine Int.le_of_mul_le_mul_right (a := s) ?_ hs
    rw [show p * d * s = p * s * d by grind,show c * q * s = c * s * q by grind]
    rw [show r * q * d = r * d * q by grind] at m
    exact Int.le_trans m m1
  · refine Int.le_of_mul_le_mul_right (a := q) ?_ hq
    rw [show c * s * q = c * q * s by grind,show r * d * q = r * q * d by grind]
    rw [show p * s * d = p * d * s by grind] at m
    exact Int.le_trans m2 m
theorem btw_self {p q c d : Int} (l : Low p q) (l' : Low c d) : btw p q p q c d ↔ (c = p ∧ d = q) := by
  constructor
  · intro h
    have e : c * q = p * d := by
      rcases h with h | h <;> omega
    exact low_unique l' l e
  · rintro ⟨rfl,rfl⟩
    exact .inl ⟨Int.le_refl _,Int.le_refl _⟩
def Ends (c1 c2 e1 e2 l1 l2 h1 h2 : Int) : Prop := l1 * h2 ≤ h1 * l2 ∧ ((l1 = c1 ∧ l2 = c2 ∧ h1 = e1 ∧ h2 = e2) ∨ (l1 = e1 ∧ l2 = e2 ∧ h1 = c1 ∧ h2 = c2))
theorem ends_btw {c1 c2 e1 e2 l1 l2 h1 h2 c d : Int} (hc : 0 < c2) (he : 0 < e2) (hd : 0 < d) (E : Ends c1 c2 e1 e2 l1 l2 h1 h2) : btw c1 c2 e1 e2 c d ↔ (l1 * d ≤ c * l2 ∧ c * h2 ≤ h1 * d) := by
  obtain ⟨hle,h | h⟩ := E
  · obtain ⟨rfl,rfl,rfl,rfl⟩ := h
    exact btw_le hc he hd hle
  · obtain ⟨rfl,rfl,rfl,rfl⟩ := h
    rw [btw_comm]
    exact btw_le he hc hd hle
theorem box_x {H : Hp} {u v : Pr} {l1 l2 h1 h2 : Int} (pu : PrAt H u) (pv : PrAt H v) (e1 : u.a = v.a) (e2 : u.b = v.b) (E : Ends u.c u.d v.c v.d l1 l2 h1 h2) : ∀ a b c d,Low a b → Low c d → (Seg u.a u.b l1 l2 h1 h2 a b c d ↔ Box u v a b c d) := fun a b c d lab lcd => by
  unfold Seg Box
  rw [← e1,← e2,btw_self pu.lx lab,ends_btw pu.ly.pos pv.ly.pos lcd.pos E]
theorem box_y {H : Hp} {u v : Pr} {l1 l2 h1 h2 : Int} (pu : PrAt H u) (pv : PrAt H v) (e1 : u.c = v.c) (e2 : u.d = v.d) (E : Ends u.a u.b v.a v.b l1 l2 h1 h2) : ∀ a b c d,Low a b → Low c d → (Seg u.c u.d l1 l2 h1 h2 c d a b ↔ Box u v a b c d) := fun a b c d lab lcd => by
  unfold Seg Box
  rw [← e1,← e2,btw_self pu.ly lcd,ends_btw pu.lx.pos pv.lx.pos lab.pos E]
  exact And.comm
theorem share_ins {n : Nat} {l1 l2 h1 h2 : Int} (Ll : Low l1 l2) (Lh : Low h1 h2) (l0 : 0 ≤ l1) (hn : h1 ≤ ((n : Int) - 1) * h2) (sh : shareB l1 l2 h1 h2 = true) (hle : l1 * h2 ≤ h1 * l2) : InS n l1 l2 h1 h2 := by
  have hl : (0 : Int) < l2 := Ll.pos
  have hh : (0 : Int) < h2 := Lh.pos
  by_cases e : l1 * h2 = h1 * l2
  · exact .inl (low_unique Ll Lh e)
  have lt : l1 * h2 < h1 * l2 := by omega
  have q0 := fl_nn hl l0
  have q1 := fl_le (a := l1) hl
  unfold shareB at sh
  rw [if_neg (by omega)] at sh
  have hi : h1 ≤ (l1 / l2 + 1) * h2 := by
    have : ¬ (l1 / l2 + 1) * h2 < h1 * 1 := by simpa using sh
    omega
  have kn : l1 / l2 < (n : Int) - 1 := by
    by_cases c : l1 / l2 < (n : Int) - 1
    · exact c
    · exfalso
      have c1 := Int.mul_le_mul_of_nonneg_right (show (n : Int) - 1 ≤ l1 / l2 by omega) (show 0 ≤ h2 by omega)
      have c2 := Int.mul_le_mul_of_nonneg_right (Int.le_trans hn c1) (show 0 ≤ l2 by omega)
      have c3 := Int.mul_le_mul_of_nonneg_right q1 (show 0 ≤ h2 by omega)
      rw [show l1 / l2 * h2 * l2 = l1 / l2 * l2 * h2 by grind] at c2
      omega
  refine .inr ⟨(l1 / l2).toNat,by omega,?_,lt,?_⟩
  · rw [show (((l1 / l2).toNat : Nat) : Int) = l1 / l2 by omega]
    exact q1
  · rw [show (((l1 / l2).toNat : Nat) : Int) = l1 / l2 by omega]
    exact hi
theorem share_comm {a b c d : Int} (hb : 0 < b) (hd : 0 < d) (la : Low a b) (lc : Low c d) : shareB a b c d = shareB c d a b := by
  unfold shareB
  by_cases h : c * b < a * d
  · rw [if_pos h,if_neg (by omega)]
  · rw [if_neg h]
    by_cases h2 : a * d < c * b
    · rw [if_pos h2]
    · rw [if_neg h2]
      obtain ⟨rfl,rfl⟩ := low_unique la lc (by omega)
      rfl
theorem ends_of {c1 c2 e1 e2 : Int} (le : ¬ e1 * c2 < c1 * e2) : Ends c1 c2 e1 e2 c1 c2 e1 e2 := ⟨by omega,.inl ⟨rfl,rfl,rfl,rfl⟩⟩
theorem ends_sw {c1 c2 e1 e2 : Int} (le : e1 * c2 < c1 * e2) : Ends c1 c2 e1 e2 e1 e2 c1 c2 := ⟨by omega,.inr ⟨rfl,rfl,rfl,rfl⟩⟩
theorem least_min {qs qs' : Crn} {t b l1 l2 h1 h2 T B s w : Int} (lt : Low t b) (Ll : Low l1 l2) (Lh : Low h1 h2) (hB : Low T B) (h : LPc (ptX qs t b) (ptY qs t b) b qs' l1 l2 h1 h2 T B) (f : Frac (sqF qs t b qs' T B) (sqD b B) s w)
    (t0 : l1 * B ≤ T * l2) (t1 : T * h2 ≤ h1 * B) : MinSq qs qs' (Seg t b l1 l2 h1 h2) s w := by
  refine ⟨f.low,?_,t,b,T,B,lt,hB,⟨⟨rfl,rfl⟩,t0,t1⟩,f.eq⟩
  rintro a b' c d _ lcd ⟨⟨rfl,rfl⟩,a1,a2⟩
  have := min_ok lt.pos Ll Lh hB lcd h a1 a2 f t0 t1
  omega
def msB (wy : Str) (u v : Pr) : Bool := if wy = wHops then false else (decide (wy = wFree) || !backB u v)
theorem ms_slide {wy : Str} {u v : Pr} (h : msB wy u v = true) (hm : mayB wy u v = true) : slideB u v = true := by
  unfold msB at h
  unfold mayB at hm
  by_cases h1 : wy = wHops
  · rw [if_pos h1] at h
    cases h
  rw [if_neg h1] at h hm
  by_cases h2 : wy = wFree
  · rw [if_pos h2] at hm
    exact hm
  · rw [if_neg h2] at hm
    rw [decide_eq_false h2,Bool.false_or] at h
    have h : backB u v = false := by simpa using h
    rw [h,Bool.false_or] at hm
    exact hm
def FS (wy : Str) (ps : List Pr) (a b c d : Int) : Prop := (∃ q ∈ ps,One q.a q.b q.c q.d a b c d) ∨ ∃ (j : Nat) (u v : Pr),ps[j]? = some u ∧ ps[j + 1]? = some v ∧ msB wy u v = true ∧ Box u v a b c d
theorem fence_all {n m : Int} {w : Str} {ps : List Pr} (h : fenceB n m w ps = true) : ps ≠ [] ∧ (∀ q ∈ ps,inB n m q = true) ∧ fstepsB w ps = true := by
  obtain ⟨f,l,h1,h2,h3,h4,h5,h6⟩ := fenceB_of.mp h
  exact ⟨(fun z => by rw [z] at h1; cases h1),List.all_eq_true.mp h3,h6⟩
inductive spMsr (vs : List V) (H : Hp) (Q : VK) (x_3 : XK) : Prop
  | mk : ∀ (u v : Pr) (wy : Str),(vs = [.ref u.p,.ref v.p,.str wy]) → (PrAt H u) → (PrAt H v) → (∀ H',Same H H' → Q (.bl (msB wy u v)) H') → spMsr vs H Q x_3
inductive spLB (vs : List V) (H : Hp) (Q : VK) (x_3 : XK) : Prop
  | mk : ∀ (l l' p q q' : Addr) (qs qs' : Crn) (t b c1 c2 e1 e2 : Int),(vs = [.ref l,.ref p,.ref l',.ref q,.ref q']) → ((LineAt H l qs ∧ 1 ≤ qs.length ∧ qs.length ≤ 20)) → ((LineAt H l' qs' ∧ 1 ≤ qs'.length ∧ qs'.length ≤ 20)) → ((Plc H p t b (lst_ qs) ∧ bits b ≤ 60)) → ((Plc H q c1 c2 (lst_ qs') ∧ bits c2 ≤ 60)) → ((Plc H q' e1 e2 (lst_ qs') ∧ bits e2 ≤ 60)) → (shareB c1 c2 e1 e2 = true) → (∀ (r : Addr) (s w l1 l2 h1 h2 : Int) (H' : Hp),Fr2 H' r s w 2103 → Ends c1 c2 e1 e2 l1 l2 h1 h2 → MinSq qs qs' (Seg t b l1 l2 h1 h2) s w → Same H H' → Q (.ref r) H') → spLB vs H Q x_3
inductive spSlide (n : Nat) (vs : List V) (H : Hp) (Q : VK) (x_3 : XK) : Prop
  | mk : ∀ (l1 l2 : Addr) (qs rs : Crn) (u v : Pr),(vs = [.ref l1,.ref l2,.ref u.p,.ref v.p]) → ((LineAt H l1 qs ∧ 1 ≤ qs.length ∧ qs.length ≤ 20)) → ((LineAt H l2 rs ∧ 1 ≤ rs.length ∧ rs.length ≤ 20)) → ((PrAt H u ∧ inB (lst_ qs) (lst_ rs) u = true)) → ((PrAt H v ∧ inB (lst_ qs) (lst_ rs) v = true)) → (slideB u v = true) → (∀ (r : Addr) (s w : Int) (H' : Hp),Fr2 H' r s w n → MinSq qs rs (Box u v) s w → Same H H' → Q (.ref r) H') → spSlide n vs H Q x_3
inductive spMS (vs : List V) (H : Hp) (Q : VK) (x_3 : XK) : Prop
  | mk : ∀ (l1 l2 l : Addr) (qs rs : Crn) (ps : List Pr) (wy : Str),(vs = [.ref l1,.ref l2,.ref l,.str wy]) → ((LineAt H l1 qs ∧ 1 ≤ qs.length ∧ qs.length ≤ 20)) → ((LineAt H l2 rs ∧ 1 ≤ rs.length ∧ rs.length ≤ 20)) → (PairsAt H l ps) → (ps.length < 400) → ((ps ≠ [] ∧ (∀ q ∈ ps,inB (lst_ qs) (lst_ rs) q = true) ∧ fstepsB wy ps = true)) → (∀ (r : Addr) (gs : Crn) (H' : Hp),Frs H' r gs → (1 ≤ gs.length ∧ gs.length < 900) → (∀ g ∈ gs,bits g.2.1 ≤ 2103 ∧ bits g.2.2 ≤ 2103 ∧ ∃ S,MinSq qs rs S g.2.1 g.2.2 ∧ ∀ a b c d,S a b c d → FS wy ps a b c d) → (∀ a b c d,FS wy ps a b c d → ∃ g ∈ gs,∃ S,MinSq qs rs S g.2.1 g.2.2 ∧ S a b c d) → Same H H' → Q (.ref r) H') → spMS vs H Q x_3
inductive spFSq (C : Addr) (vs : List V) (H : Hp) (Q : VK) (E : XK) : Prop
  | mk : ∀ (l1 l2 l : Addr) (qs rs : Crn) (ps : List Pr) (wy : Str),(vs = [.ref l1,.ref l2,.ref l,.str wy]) → ((LineAt H l1 qs ∧ 1 ≤ qs.length ∧ qs.length ≤ 20)) → ((LineAt H l2 rs ∧ 1 ≤ rs.length ∧ rs.length ≤ 20)) → (PairsAt H l ps) → (ps.length < 400) → (isWay wy) → ((fenceB (lst_ qs) (lst_ rs) wy ps = false → ∀ H',Same H H' → E (.ref C) none H')) → ((fenceB (lst_ qs) (lst_ rs) wy ps = true → ∀ (r : Addr) (s w : Int) (H' : Hp),Fr2 H' r s w 2103 → MinSq qs rs (FS wy ps) s w → Same H H' → Q (.ref r) H')) → spFSq C vs H Q E
theorem S_number_of_least : FnScope ["fractions","found","number","fraction"] ["fractions"] (defScope (top 17)) := ⟨rfl,rfl,rfl,by decide +kernel,rfl,by decide +kernel,by decide +kernel⟩
theorem fn_number_of_least (D_number_of_least : Df K mg "number_of_least" (top 17)) (F_less : Fn P w K mg base "less" ["a","b"] 1 spLs) (T : Txt mg) : Fn P w K mg base "number_of_least" ["fractions"] 2 spNoL := by
  refine D_number_of_least.fn S_number_of_least (fun _ _ _ _ _ _ us hl => by obtain ⟨_,rfl⟩ := len1 hl; rfl) (fun vs H Q E h => ?_) (fun f cdv A outer s H vs Q E hr h => ?_)
  · obtain ⟨l,fs,rfl,_⟩ := h
    rfl
  · obtain ⟨l,fs,rfl,F0,⟨h1,h9⟩,q⟩ := h
    refine ⟨_,(pss_cons (ps_set (i := 1) S_number_of_least.nd rfl (Or.inl rfl) pe_int) (pss_cons (ps_for PassesOwn.never rfl (pi_enum rfl T.z_enumerate (pa_cons (pv 0) pa_nil)) (pg_tup rfl (pgs_cons (pg_name (i := 2) S_number_of_least.nd rfl (Or.inl rfl)) (pgs_cons (pg_name (i := 3) S_number_of_least.nd rfl (Or.inl rfl)) pgs_nil))) (pss_one (ps_if (pt_val (pe_fn F_less (hr.mono (by decide)) (by rfl) (pa_cons (pv 3) (pa_cons (pe_ix ix_list (pv 0) (pv 1) (fun _ _ => rfl)) pa_nil)))) (pss_one (ps_set (i := 1) S_number_of_least.nd rfl (Or.inl rfl) (pv 2))) pss_nil))) (pss_one (ps_ret (pv 1))))),?_⟩
    have hll : (fs.map fun (q : Addr × Int × Int) => V.ref q.1).length = fs.length := List.length_map _
    refine ⟨_,rfl,l,rfl,⟨_,SqL.of F0.lst⟩,for_enum (K := K) (a := l) (xs := fs.map fun (q : Addr × Int × Int) => V.ref q.1) (fun i σ H3 => ∃ (z1 z2 : Option V) (k : Nat) (p : Addr × Int × Int),σ = [some (.ref l),some (.int (k : Int)),z1,z2] ∧ fs[k]? = some p ∧ (∀ (j : Nat) q,j < i → fs[j]? = some q → leF p q) ∧ (∀ (j : Nat) q,j < k → fs[j]? = some q → ¬ leF q p) ∧ (k ≤ i) ∧ Same H H3)
      ⟨_,_,0,fs[0],rfl,List.getElem?_eq_getElem (by omega),fun j q h => absurd h (by omega),fun j q h => absurd h (by omega),Nat.le_refl _,Same.refl _⟩ (fun i σ H3 _ ⟨_,_,_,_,_,_,_,_,_,s3⟩ => SqL.of (s3 _ _ F0.lst)) ?_ ?_⟩
    · rintro i x pp σ H3 H4 hx ⟨z1,z2,k,p,rfl,hk,hle,hlt,hki,s3⟩ s4 f4
      rw [List.getElem?_map] at hx
      obtain ⟨u,hu,rfl⟩ := Option.map_eq_some_iff.mp hx
      have F4 := F0.mono (s3.trans s4)
      have fu := F4.fr u (List.mem_of_getElem? hu)
      have fp := F4.fr p (List.mem_of_getElem? hk)
      have ea : atI (fs.map fun (q : Addr × Int × Int) => V.ref q.1) (k : Int) = some (.ref p.1) := atI_nat (by rw [List.getElem?_map,hk]; rfl)
      refine ⟨pp,_,rfl,SqT.of f4,rfl,_,_,rfl,_,_,rfl,rfl,?_⟩
      refine ⟨_,rfl,_,rfl,_,rfl,l,_,_,_,rfl,rfl,SqL.of F4.lst,ea,u.1,p.1,_,_,_,_,rfl,fu.1,fp.1,⟨bits_le fu.2.2.1 (by decide),bits_le fu.2.2.2 (by decide),bits_le fp.2.2.1 (by decide),bits_le fp.2.2.2 (by decide)⟩,_,rfl,ite3 (fun c => ?_) (fun c => ?_)⟩
      · have c : u.2.1 * p.2.2 < p.2.1 * u.2.2 := dec_t c
        refine ⟨_,rfl,_,_,i,u,rfl,hu,fun j v hj hv => ?_,fun j v hj hv z => ?_,Nat.le_succ _,s3.trans s4⟩
        · by_cases hji : j = i
          · subst hji
            rw [hu] at hv
            cases hv
            exact Int.le_refl _
          · exact leF_trans fp.2.1 fu.2.1 (F4.fr v (List.mem_of_getElem? hv)).2.1 (Int.le_of_lt c) (hle j v (by omega) hv)
        · have := leF_trans (F4.fr v (List.mem_of_getElem? hv)).2.1 fp.2.1 fu.2.1 (hle j v hj hv) z
          unfold leF at this
          omega
      · have c : ¬ u.2.1 * p.2.2 < p.2.1 * u.2.2 := dec_f c
        refine ⟨_,_,k,p,rfl,hk,fun j v hj hv => ?_,hlt,by omega,s3.trans s4⟩
        by_cases hji : j = i
        · subst hji
          rw [hu] at hv
          cases hv
          unfold leF
          omega
        · exact hle j v (by omega) hv
    · rintro σ H3 ⟨z1,z2,k,p,rfl,hk,hle,hlt,hki,s3⟩
      refine ⟨_,rfl,q k p H3 hk (fun r hr => ?_) hlt s3⟩
      obtain ⟨j,hj,e⟩ := List.getElem_of_mem hr
      exact hle j r (by rw [hll]; exact hj) (by rw [List.getElem?_eq_getElem hj,e])
theorem S_is_measured_between : FnScope ["begin","end","way"] ["begin","end","way"] (defScope (top 64)) := ⟨rfl,rfl,rfl,by decide +kernel,rfl,by decide +kernel,by decide +kernel⟩
theorem fn_is_measured_between (D_is_measured_between : Df K mg "is_measured_between" (top 64)) (F_steps_back : Fn P w K mg base "steps_back" ["begin","end"] 2 (spTwo backB)) : Fn P w K mg base "is_measured_between" ["begin","end","way"] 3 spMsr := by
  refine D_is_measured_between.fn S_is_measured_between (fun _ _ _ _ _ _ us hl => by obtain ⟨_,_,_,rfl⟩ := len3 hl; rfl) (fun vs H Q E h => ?_) (fun f cdv A outer s H vs Q E hr h => ?_)
  · obtain ⟨u,v,wy,rfl,_⟩ := h
    rfl
  · obtain ⟨u,v,wy,rfl,pu,qv,k⟩ := h
    refine ⟨_,(pss_cons (ps_if (pt_cmpR op_eq (pv 2) pe_str (nomark _)) (pss_one (ps_ret pe_bl)) pss_nil) (pss_one (ps_ret (pe_or (pe_cmpR op_eq (pv 2) pe_str (nomark _)) (pe_one (pe_not (pe_fn F_steps_back (hr.mono (by decide)) (by rfl) (pa_cons (pv 0) (pa_cons (pv 1) pa_nil))))))))),?_⟩
    unfold msB at k
    refine ⟨_,rfl,rfl,_,rfl,ite3 (fun h1 => ?_) (fun h1 => ?_)⟩
    · rw [if_pos (show wy = wHops from dec_t (ds h1))] at k
      exact k H (Same.refl _)
    rw [if_neg (show ¬ wy = wHops from dec_f (ds h1))] at k
    refine ⟨_,rfl,rfl,_,rfl,ite3 (fun h2 => ?_) (fun h2 => ?_)⟩
    · rw [show decide (wy = wFree) = true from ds h2,Bool.true_or] at k
      exact k H (Same.refl _)
    · rw [show decide (wy = wFree) = false from ds h2,Bool.false_or] at k
      exact ⟨_,rfl,_,rfl,u,v,rfl,pu,qv,fun H1 s1 => ⟨_,rfl,k H1 s1⟩⟩
theorem S_least_between : FnScope ["corner_line","corner","line","begin","end","low","high"] ["corner_line","corner","line","begin","end"] (defScope (top 65)) := ⟨rfl,rfl,rfl,by decide +kernel,rfl,by decide +kernel,by decide +kernel⟩
theorem fn_least_between {C : Addr} (D_least_between : Df K mg "least_between" (top 65)) (F_less : Fn P w K mg base "less" ["a","b"] 1 spLs) (F_least_along : Fx P w K mg base "least_along" ["one","x","other","low","high"] 6 [] (spLeast C)) : Fn P w K mg base "least_between" ["corner_line","corner","line","begin","end"] 7 spLB := by
  refine D_least_between.fn S_least_between (fun _ _ _ _ _ _ us hl => by obtain ⟨_,_,_,_,_,rfl⟩ := len5 hl; rfl) (fun vs H Q E h => ?_) (fun f cdv A outer s H vs Q E hr h => ?_)
  · obtain ⟨l,l',p,q,q',qs,qs',t,b,c1,c2,e1,e2,rfl,_⟩ := h
    rfl
  · obtain ⟨l,l',p,q,q',qs,qs',t,b,c1,c2,e1,e2,rfl,⟨L,n1,n20⟩,⟨L',m1,m20⟩,⟨pl,bb⟩,⟨pc,bc⟩,⟨pe,be⟩,sh,k⟩ := h
    have R : ∃ u,PSs (cxOf CX0 P w K mg base ["corner_line","corner","line","begin","end","low","high"] "least_between" (defScope (top 65)) f cdv A outer s H E).nox ((defBody (top 65)).drop 3) u ∧ ∀ (y z : Addr) (l1 l2 h1 h2 : Int),Plc H y l1 l2 (lst_ qs') → Plc H z h1 h2 (lst_ qs') → bits l2 ≤ 60 → bits h2 ≤ 60 → InS qs'.length l1 l2 h1 h2 → Ends c1 c2 e1 e2 l1 l2 h1 h2 → u { nx := fun _ H' => Q .non H',rt := Q } [some (.ref l),some (.ref p),some (.ref l'),some (.ref q),some (.ref q'),some (.ref y),some (.ref z)] H := by
      refine ⟨_,(pss_one (ps_ret (pe_ix ix_tup (pe_fx0 F_least_along (hr.mono (by decide)) (by rfl) (pa_cons (pv 0) (pa_cons (pv 1) (pa_cons (pv 2) (pa_cons (pv 5) (pa_cons (pv 6) pa_nil)))))) pe_int (fun _ _ => rfl)))),fun y z l1 l2 h1 h2 py pz b1 b2 ins en => ?_⟩
      refine ⟨_,rfl,_,rfl,_,rfl,_,rfl,_,rfl,l,l',qs,qs',_,_,_,rfl,L,L',⟨n1,n20⟩,⟨m1,m20⟩,pl.th,py.th,pz.th,.inr ⟨p,t,b,rfl,pl,.inr ⟨y,l1,l2,rfl,py,.inr ⟨z,h1,h2,rfl,pz,bb,b1,b2,ins,fun r rs rp s' w' T B H1 fr fs pT lp r0 r1 fq s1 => ?_⟩⟩⟩⟩
      exact ⟨r,_,_,_,rfl,rfl,SqT.of fr,rfl,k rs s' w' l1 l2 h1 h2 H1 fs en (least_min pl.low py.low pz.low pT.low lp fq r0 r1) s1⟩
    obtain ⟨u,hu,fin⟩ := R
    refine ⟨_,(pss_cons (ps_set (i := 5) S_least_between.nd rfl (Or.inl rfl) (pv 3)) (pss_cons (ps_set (i := 6) S_least_between.nd rfl (Or.inl rfl) (pv 4)) (pss_cons (ps_if (pt_val (pe_fn F_less (hr.mono (by decide)) (by rfl) (pa_cons (pv 4) (pa_cons (pv 3) pa_nil)))) (pss_cons (ps_set (i := 5) S_least_between.nd rfl (Or.inl rfl) (pv 4)) (pss_one (ps_set (i := 6) S_least_between.nd rfl (Or.inl rfl) (pv 3)))) pss_nil) hu))),?_⟩
    refine ⟨_,rfl,_,rfl,?_⟩
    refine ⟨_,rfl,_,rfl,q',q,e1,e2,c1,c2,rfl,pe.at_,pc.at_,⟨bits_le pe.bt (by decide),bits_le pe.bb (by decide),bits_le pc.bt (by decide),bits_le pc.bb (by decide)⟩,_,rfl,ite3 (fun h => ?_) (fun h => ?_)⟩
    · have h : e1 * c2 < c1 * e2 := dec_t h
      refine ⟨_,rfl,_,rfl,fin q' q e1 e2 c1 c2 pe pc be bc (share_ins pe.low pc.low pe.lo pc.hi ?_ (by omega)) (ends_sw h)⟩
      rw [share_comm pe.low.pos pc.low.pos pe.low pc.low]
      exact sh
    · have h : ¬ e1 * c2 < c1 * e2 := dec_f h
      exact fin q q' c1 c2 e1 e2 pc pe bc be (share_ins pc.low pe.low pc.lo pe.hi sh (by omega)) (ends_of h)
theorem S_slide_square : FnScope ["one","other","begin","end"] ["one","other","begin","end"] (defScope (top 66)) := ⟨rfl,rfl,rfl,by decide +kernel,rfl,by decide +kernel,by decide +kernel⟩
theorem fn_slide_square (D_slide_square : Df K mg "slide_square" (top 66)) (F_keeps_corner : Fn P w K mg base "keeps_corner" ["begin","end","number"] 4 spKeep) (F_least_between : Fn P w K mg base "least_between" ["corner_line","corner","line","begin","end"] 7 spLB) : Fn P w K mg base "slide_square" ["one","other","begin","end"] 8 (spSlide 2103) := by
  refine D_slide_square.fn S_slide_square (fun _ _ _ _ _ _ us hl => by obtain ⟨_,_,_,_,rfl⟩ := len4 hl; rfl) (fun vs H Q E h => ?_) (fun f cdv A outer s H vs Q E hr h => ?_)
  · obtain ⟨l1,l2,qs,rs,u,v,rfl,_⟩ := h
    rfl
  · obtain ⟨l1,l2,qs,rs,u,v,rfl,⟨L1,n1,n20⟩,⟨L2,m1,m20⟩,⟨pu,iu⟩,⟨qv,iv⟩,sl,k⟩ := h
    refine ⟨_,(pss_cons (ps_if (pt_val (pe_fn F_keeps_corner (hr.mono (by decide)) (by rfl) (pa_cons (pv 2) (pa_cons (pv 3) (pa_cons pe_int pa_nil))))) (pss_one (ps_ret (pe_fn F_least_between (hr.mono (by decide)) (by rfl) (pa_cons (pv 0) (pa_cons (pe_ix ix_tup (pv 2) pe_int (fun _ _ => rfl)) (pa_cons (pv 1) (pa_cons (pe_ix ix_tup (pv 2) pe_int (fun _ _ => rfl)) (pa_cons (pe_ix ix_tup (pv 3) pe_int (fun _ _ => rfl)) pa_nil)))))))) pss_nil) (pss_one (ps_ret (pe_fn F_least_between (hr.mono (by decide)) (by rfl) (pa_cons (pv 1) (pa_cons (pe_ix ix_tup (pv 2) pe_int (fun _ _ => rfl)) (pa_cons (pv 0) (pa_cons (pe_ix ix_tup (pv 2) pe_int (fun _ _ => rfl)) (pa_cons (pe_ix ix_tup (pv 3) pe_int (fun _ _ => rfl)) pa_nil))))))))),?_⟩
    have hq100 : lst_ qs ≤ 100 := by unfold lst_; omega
    have hr100 : lst_ rs ≤ 100 := by unfold lst_; omega
    refine ⟨_,rfl,_,rfl,u,v,0,rfl,.inl rfl,pu,qv,fun H1 s1 => ⟨_,rfl,?_⟩⟩
    rw [show keepN 0 u v = keepX u v from rfl]
    have pu1 := pu.t s1.t
    have qv1 := qv.t s1.t
    have la : (LineAt H1 l1 qs ∧ 1 ≤ qs.length ∧ qs.length ≤ 20) := ⟨L1.mono s1,n1,n20⟩
    have lb : (LineAt H1 l2 rs ∧ 1 ≤ rs.length ∧ rs.length ≤ 20) := ⟨L2.mono s1,m1,m20⟩
    have ux := pu1.plx iu hq100
    have uy := pu1.ply iu hr100
    have vx := qv1.plx iv hq100
    have vy := qv1.ply iv hr100
    have PU := SqT.of (K := K) pu1.p_
    have PV := SqT.of (K := K) qv1.p_
    refine ite3 (fun c => ?_) (fun c => ?_)
    · unfold keepX at c
      rw [Bool.and_eq_true,Bool.and_eq_true] at c
      have z := of_decide_eq_true c.1
      simp only [List.cons.injEq,and_true] at z
      exact ⟨_,rfl,_,rfl,u.p,_,_,_,rfl,rfl,PU,rfl,_,rfl,_,rfl,u.p,_,_,_,rfl,rfl,PU,rfl,_,rfl,v.p,_,_,_,rfl,rfl,PV,rfl,l1,l2,u.x,u.y,v.y,qs,rs,_,_,_,_,_,_,rfl,la,lb,⟨ux,pu1.bb⟩,⟨uy,pu1.bd⟩,⟨vy,qv1.bd⟩,c.2.2,fun r s' w' l1' l2' h1' h2' H2 fr en ms s2 => k r s' w' H2 fr (ms.congr (box_x pu qv z.1 z.2 en)) (s1.trans s2)⟩
    · unfold slideB at sl
      rw [c,Bool.false_or] at sl
      unfold keepY at sl
      rw [Bool.and_eq_true,Bool.and_eq_true] at sl
      have z := of_decide_eq_true sl.1
      simp only [List.cons.injEq,and_true] at z
      exact ⟨_,rfl,_,rfl,u.p,_,_,_,rfl,rfl,PU,rfl,_,rfl,_,rfl,u.p,_,_,_,rfl,rfl,PU,rfl,_,rfl,v.p,_,_,_,rfl,rfl,PV,rfl,l2,l1,u.y,u.x,v.x,rs,qs,_,_,_,_,_,_,rfl,lb,la,⟨uy,pu1.bd⟩,⟨ux,pu1.bb⟩,⟨vx,qv1.bb⟩,sl.2.2,fun r s' w' l1' l2' h1' h2' H2 fr en ms s2 => k r s' w' H2 fr (ms.swap.congr (box_y pu qv z.1 z.2 en)) (s1.trans s2)⟩
def FSi (wy : Str) (ps : List Pr) (i : Nat) (a b c d : Int) : Prop := (∃ q ∈ ps,One q.a q.b q.c q.d a b c d) ∨ ∃ (j : Nat) (u v : Pr),j < i ∧ ps[j]? = some u ∧ ps[j + 1]? = some v ∧ msB wy u v = true ∧ Box u v a b c d
structure GsI (H : Hp) (l : Addr) (qs rs : Crn) (wy : Str) (ps : List Pr) (i : Nat) (gs : Crn) : Prop where
  fr : Frs H l gs
  len : ps.length ≤ gs.length ∧ gs.length ≤ ps.length + i
  a : ∀ g ∈ gs,bits g.2.1 ≤ 2103 ∧ bits g.2.2 ≤ 2103 ∧ ∃ S,MinSq qs rs S g.2.1 g.2.2 ∧ ∀ a b c d,S a b c d → FS wy ps a b c d
  b : ∀ a b c d,FSi wy ps i a b c d → ∃ g ∈ gs,∃ S,MinSq qs rs S g.2.1 g.2.2 ∧ S a b c d
theorem GsI.skip {H : Hp} {l : Addr} {qs rs : Crn} {wy : Str} {ps : List Pr} {i : Nat} {gs : Crn} {u v : Pr} (G : GsI H l qs rs wy ps i gs) (hu : ps[i]? = some u) (hv : ps[i + 1]? = some v) (hm : msB wy u v = false) : GsI H l qs rs wy ps (i + 1) gs := by
  refine ⟨G.fr,⟨G.len.1,by have := G.len.2; omega⟩,G.a,fun a b c d h => G.b a b c d ?_⟩
  rcases h with h | ⟨j,u',v',hj,e1,e2,m,bx⟩
  · exact .inl h
  · by_cases hji : j = i
    · subst hji
      rw [hu] at e1
      rw [hv] at e2
      cases e1
      cases e2
      rw [hm] at m
      cases m
    · exact .inr ⟨j,u',v',by omega,e1,e2,m,bx⟩
theorem GsI.step {H : Hp} {l r : Addr} {qs rs : Crn} {wy : Str} {ps : List Pr} {i : Nat} {gs : Crn} {u v : Pr} {s w : Int} {H' : Hp} (G : GsI H l qs rs wy ps i gs) (hu : ps[i]? = some u) (hv : ps[i + 1]? = some v) (hm : msB wy u v = true) (f : Fr2 H r s w 2103) (ms : MinSq qs rs (Box u v) s w) (up : Upd H H' l (gs.map fun q => V.ref q.1) ((gs.map fun q => V.ref q.1) ++ [V.ref r])) : GsI H' l qs rs wy ps (i + 1) (gs ++ [(r,s,w)]) := by
  refine ⟨⟨by rw [up.now]; simp,fun q hq => ?_⟩,?_,fun g hg => ?_,fun a b c d h => ?_⟩
  · rcases List.mem_append.mp hq with hq | hq
    · exact ⟨up.t _ _ (G.fr.fr q hq).1,(G.fr.fr q hq).2⟩
    · rw [List.mem_singleton.mp hq]
      exact ⟨up.t _ _ f.at_,f.low.pos,bits_le f.ba (by decide),bits_le f.bb (by decide)⟩
  · have := G.len
    rw [List.length_append]
    simp only [List.length_cons,List.length_nil]
    omega
  · rcases List.mem_append.mp hg with hg | hg
    · exact G.a g hg
    · rw [List.mem_singleton.mp hg]
      exact ⟨f.ba,f.bb,_,ms,fun a b c d h => .inr ⟨i,u,v,hu,hv,hm,h⟩⟩
  · by_cases hb : FSi wy ps i a b c d
    · obtain ⟨g,hg,S,h1,h2⟩ := G.b a b c d hb
      exact ⟨g,List.mem_append_left _ hg,S,h1,h2⟩
    · rcases h with h | ⟨j,u',v',hj,e1,e2,m,bx⟩
      · exact absurd (.inl h) hb
      · by_cases hji : j = i
        · subst hji
          rw [hu] at e1
          rw [hv] at e2
          cases e1
          cases e2
          exact ⟨(r,s,w),List.mem_append_right _ (by simp),_,ms,bx⟩
        · exact absurd (.inr ⟨j,u',v',by omega,e1,e2,m,bx⟩) hb
theorem fsi_end {wy : Str} {ps : List Pr} {i : Nat} (hi : ps.length ≤ i + 1) {a b c d : Int} (h : FS wy ps a b c d) : FSi wy ps i a b c d := by
  rcases h with h | ⟨j,u,v,e1,e2,m,bx⟩
  · exact .inl h
  · have := (List.getElem?_eq_some_iff.mp e2).1
    exact .inr ⟨j,u,v,by omega,e1,e2,m,bx⟩
theorem S_measured_squares : FnScope ["one","other","fence","way","squares","begin","end"] ["one","other","fence","way"] (defScope (top 67)) := ⟨rfl,rfl,rfl,by decide +kernel,rfl,by decide +kernel,by decide +kernel⟩
theorem fn_measured_squares {C2 : Addr} (D_measured_squares : Df K mg "measured_squares" (top 67)) (F_square_of : Fx P w K mg base "square_of" ["one","x","other","y"] 6 [] (spSquare C2)) (F_is_measured_between : Fn P w K mg base "is_measured_between" ["begin","end","way"] 3 spMsr) (F_slide_square : Fn P w K mg base "slide_square" ["one","other","begin","end"] 8 (spSlide 2103)) (T : Txt mg) : Fn P w K mg base "measured_squares" ["one","other","fence","way"] 9 spMS := by
  refine D_measured_squares.fn S_measured_squares (fun _ _ _ _ _ _ us hl => by obtain ⟨_,_,_,_,rfl⟩ := len4 hl; rfl) (fun vs H Q E h => ?_) (fun f cdv A outer s H vs Q E hr h => ?_)
  · obtain ⟨l1,l2,l,qs,rs,ps,wy,rfl,_⟩ := h
    rfl
  · obtain ⟨l1,l2,l,qs,rs,ps,wy,rfl,⟨L1,n1,n20⟩,⟨L2,m1,m20⟩,PP,hlen,⟨hne,hin,hst⟩,k⟩ := h
    have hq100 : lst_ qs ≤ 100 := by unfold lst_; omega
    have hr100 : lst_ rs ≤ 100 := by unfold lst_; omega
    have CN : CompN (cxOf CX0 P w K mg base ["one","other","fence","way","squares","begin","end"] "measured_squares" (defScope (top 67)) f cdv A outer s H E).nox (setScope ((defBody (top 67)).getD 0 (.Pass ⟨0,0,0,0⟩))) [("other",s.heap.objs.size + 2),("one",s.heap.objs.size + 1)] "pair" [("one",0),("other",1)] :=
      ⟨by rfl,rfl,by decide +kernel,by decide +kernel,rfl,(fun p hp => by simp only [List.mem_cons,List.not_mem_nil,or_false] at hp; rcases hp with rfl | rfl <;> rfl),by rfl,by decide +kernel,(fun p hp => by simp only [List.mem_cons,List.not_mem_nil,or_false] at hp; rcases hp with rfl | rfl <;> exact ⟨rfl,rfl,.inr (.inl rfl),rfl,rfl⟩),⟨rfl,rfl⟩,rfl⟩
    refine ⟨_,(pss_cons (ps_setCompA (j := 4) rfl CN S_measured_squares.nd rfl rfl (pi_list (pv 2)) (fun fp s₀ H₀ => (pe_fx0 F_square_of (hr.mono (by decide)) (by rfl) (pa_cons (pv 1) (pa_cons (pe_ix (ix_tupK (K := K) rfl) (pv 0) pe_int (fun _ _ => rfl)) (pa_cons (pv 2) (pa_cons (pe_ix (ix_tupK (K := K) rfl) (pv 0) pe_int (fun _ _ => rfl)) pa_nil))))))) (pss_cons (ps_for PassesOwn.never rfl (pi_zip rfl T.z_zip (pa_cons (pv 2) (pa_cons (pe_slice sl_listA (pv 2) (po_some pe_int) po_none) pa_nil))) (pg_tup rfl (pgs_cons (pg_name (i := 5) S_measured_squares.nd rfl (Or.inl rfl)) (pgs_cons (pg_name (i := 6) S_measured_squares.nd rfl (Or.inl rfl)) pgs_nil))) (pss_one (ps_if (pt_val (pe_fn F_is_measured_between (hr.mono (by decide)) (by rfl) (pa_cons (pv 5) (pa_cons (pv 6) (pa_cons (pv 3) pa_nil))))) (pss_one (ps_expr (pe_bm PySem.F.plainAttrs_list PySem.F.slot_list_append PySem.F.type_list_append mt_appendA (pv 4) (pa_cons (pe_fn F_slide_square (hr.mono (by decide)) (by rfl) (pa_cons (pv 0) (pa_cons (pv 1) (pa_cons (pv 5) (pa_cons (pv 6) pa_nil))))) pa_nil)))) pss_nil))) (pss_one (ps_ret (pv 4))))),?_⟩
    refine ⟨_,rfl,l,rfl,⟨_,SqL.of PP.lst⟩,comp_R (SqL.of PP.lst) (by rw [prs_len]; omega) (fun i v H' => ∃ (q : Pr) (r : Addr) (s w : Int),v = .ref r ∧ ps[i]? = some q ∧ Frac (sqF qs q.a q.b rs q.c q.d) (sqD q.b q.d) s w ∧ (bits s ≤ 2103 ∧ bits w ≤ 2103) ∧ H' r = some (.tup [.int s,.int w])) (fun i v H H' st ⟨q,r,s,w,e,hq,fr,bd,c⟩ => ⟨q,r,s,w,e,hq,fr,bd,st _ _ c⟩) ?_ ?_⟩
    · intro i x H2 Kc hx s2 kk
      obtain ⟨q,hq,rfl⟩ := prs_get hx
      have mq := List.mem_of_getElem? hq
      have pq := (PP.mono s2).pr q mq
      have hi := hin q mq
      have plx := pq.plx hi hq100
      have ply := pq.ply hi hr100
      refine ⟨_,rfl,_,rfl,q.p,_,_,_,rfl,rfl,SqT.of pq.p_,rfl,_,rfl,_,rfl,q.p,_,_,_,rfl,rfl,SqT.of pq.p_,rfl,l1,l2,qs,rs,_,_,rfl,L1.mono s2,L2.mono s2,⟨n1,n20⟩,⟨m1,m20⟩,plx.th,ply.th,.inr ⟨q.x,q.a,q.b,rfl,plx,.inr ⟨q.y,q.c,q.d,rfl,ply,fun r s' w' H3 fr f3 s3 => ?_⟩⟩⟩
      exact kk _ _ s3 ⟨q,r,s',w',rfl,hq,fr,⟨f3.ba,f3.bb⟩,f3.at_⟩
    · intro l5 ys H9 nl5 s9 f9 hly hr
      rw [prs_len] at hly
      obtain ⟨gs,hgl,hg⟩ := list_of (β := Addr × Int × Int) ys (fun i v g => v = .ref g.1 ∧ ∃ q,ps[i]? = some q ∧ Frac (sqF qs q.a q.b rs q.c q.d) (sqD q.b q.d) g.2.1 g.2.2 ∧ (bits g.2.1 ≤ 2103 ∧ bits g.2.2 ≤ 2103) ∧ H9 g.1 = some (.tup [.int g.2.1,.int g.2.2])) fun i x hx => by
        obtain ⟨q,r,s',w',rfl,hq,fr,bd,c⟩ := hr i x hx
        exact ⟨(r,s',w'),rfl,q,hq,fr,bd,c⟩
      have hgi : ∀ (i : Nat) g,gs[i]? = some g → ∃ q,ps[i]? = some q ∧ Frac (sqF qs q.a q.b rs q.c q.d) (sqD q.b q.d) g.2.1 g.2.2 ∧ (bits g.2.1 ≤ 2103 ∧ bits g.2.2 ≤ 2103) ∧ H9 g.1 = some (.tup [.int g.2.1,.int g.2.2]) := fun i g hg' => by
        obtain ⟨y,hy⟩ := get_ex hgl.symm hg'
        exact (hg i y g hy hg').2
      have F9 : Frs H9 l5 gs := by
        refine ⟨by rw [f9]; exact congrArg _ (congrArg _ (map_of hgl fun i x g hx hg' => (hg i x g hx hg').1)),fun g hgm => ?_⟩
        obtain ⟨i,hi,e⟩ := List.getElem_of_mem hgm
        obtain ⟨q,hq,fr,bd,c⟩ := hgi i g (by rw [List.getElem?_eq_getElem hi,e])
        exact ⟨c,fr.low.pos,bits_le bd.1 (by decide),bits_le bd.2 (by decide)⟩
      have G9 : GsI H9 l5 qs rs wy ps 0 gs := by
        refine ⟨F9,⟨by omega,by omega⟩,fun g hgm => ?_,fun a b c d h => ?_⟩
        · obtain ⟨i,hi,e⟩ := List.getElem_of_mem hgm
          obtain ⟨q,hq,fr,bd,c⟩ := hgi i g (by rw [List.getElem?_eq_getElem hi,e])
          have mq := List.mem_of_getElem? hq
          exact ⟨bd.1,bd.2,_,min_one (PP.pr q mq).lx (PP.pr q mq).ly fr,fun a b c d h => .inl ⟨q,mq,h⟩⟩
        · rcases h with ⟨q,hq,h⟩ | ⟨j,u',v',hj,_⟩
          · obtain ⟨j,hj,e⟩ := List.getElem_of_mem hq
            have hj' : ps[j]? = some q := by rw [List.getElem?_eq_getElem hj,e]
            obtain ⟨g',hg'⟩ := get_ex (ys := gs) (by omega) hj'
            obtain ⟨q',hq',fr',_,_⟩ := hgi j g' hg'
            rw [hj'] at hq'
            cases hq'
            exact ⟨g',List.mem_of_getElem? hg',_,min_one (PP.pr q hq).lx (PP.pr q hq).ly fr',h⟩
          · omega
      have P9 := PP.mono s9
      refine ⟨_,rfl,_,rfl,_,rfl,l,_,rfl,SqL.of P9.lst,fun l2' H4 s4 f4 n4 => ?_⟩
      rw [cut_prs] at f4
      have n25 : l2' ≠ l5 := (ne_of_none F9.lst n4).symm
      have G4 : GsI H4 l5 qs rs wy ps 0 gs := ⟨G9.fr.mono s4,G9.len,G9.a,G9.b⟩
      have P4 := P9.mono s4
      refine ⟨l,l2',rfl,⟨_,SqL.of P4.lst⟩,⟨_,SqL.of f4⟩,for_zip (K := K) (xs := prs ps) (ys := prs (ps.drop 1)) (fun i σ H5 => ∃ z1 z2 gs,σ = [some (.ref l1),some (.ref l2),some (.ref l),some (.str wy),some (.ref l5),z1,z2] ∧ GsI H5 l5 qs rs wy ps i gs ∧ H5 l2' = some (.lst (prs (ps.drop 1))) ∧ Same H H5)
        ⟨_,_,gs,rfl,G4,f4,s9.trans s4⟩ (fun i σ H5 _ ⟨_,_,_,_,_,f5,s5⟩ => ⟨SqL.of (s5 _ _ PP.lst),SqL.of f5⟩) ?_ ?_⟩
      · rintro i x y pp σ H5 H6 hx hy ⟨z1,z2,gs,rfl,G5,f5,s5⟩ s6 f6
        obtain ⟨u,hu,rfl⟩ := prs_get hx
        obtain ⟨v,hv,rfl⟩ := prs_get hy
        have hv' : ps[i + 1]? = some v := by rw [List.getElem?_drop] at hv; rw [Nat.add_comm]; exact hv
        have S6 := s5.trans s6
        have mu := List.mem_of_getElem? hu
        have mv := List.mem_of_getElem? hv'
        have hi := (List.getElem?_eq_some_iff.mp hv').1
        have pu := (PP.pr u mu).t S6.t
        have qv := (PP.pr v mv).t S6.t
        refine ⟨pp,_,rfl,SqT.of f6,rfl,_,_,rfl,_,_,rfl,rfl,?_⟩
        refine ⟨_,rfl,_,rfl,_,rfl,u,v,wy,rfl,pu,qv,fun H7 s7 => ⟨_,rfl,ite3 (fun c => ?_) (fun c => ?_)⟩⟩
        · have S7 := S6.trans s7
          have G7 : GsI H7 l5 qs rs wy ps i gs := ⟨G5.fr.mono (s6.trans s7),G5.len,G5.a,G5.b⟩
          refine ⟨_,rfl,.inl ⟨rfl,_,SqL.of G7.fr.lst⟩,_,rfl,_,rfl,_,rfl,_,rfl,l1,l2,qs,rs,u,v,rfl,⟨L1.mono S7,n1,n20⟩,⟨L2.mono S7,m1,m20⟩,⟨pu.t s7.t,hin u mu⟩,⟨qv.t s7.t,hin v mv⟩,ms_slide c (fsteps_iff.mp hst i u v hu hv'),fun r s' w' H8 fr ms s8 => ?_⟩
          have G8 : GsI H8 l5 qs rs wy ps i gs := ⟨G7.fr.mono s8,G7.len,G7.a,G7.b⟩
          refine ⟨l5,_,_,rfl,rfl,G8.fr.lst,small1000 (by rw [List.length_map]; have := G8.len; omega),fun H9 u9 => ?_⟩
          exact ⟨_,_,_,rfl,G8.step hu hv' c fr ms u9,u9.at n25 (s8 _ _ (s7 _ _ (s6 _ _ f5))),u9.same (S7.trans s8) nl5⟩
        · exact ⟨_,_,gs,rfl,(⟨G5.fr.mono (s6.trans s7),G5.len,G5.a,G5.b⟩ : GsI H7 l5 qs rs wy ps i gs).skip hu hv' c,s7 _ _ (s6 _ _ f5),S6.trans s7⟩
      · rintro σ H5 ⟨z1,z2,gs,rfl,G5,f5,s5⟩
        have h0 := List.length_pos_iff.mpr hne
        exact ⟨_,rfl,k l5 gs H5 G5.fr ⟨by have := G5.len; omega,by have := G5.len; rw [prs_len,prs_len,List.length_drop] at this; omega⟩ G5.a (fun a b c d h => G5.b a b c d (fsi_end (by rw [prs_len,prs_len,List.length_drop]; omega) h)) s5⟩
theorem S_fence_square : FnScope ["one","other","fence","way","squares"] ["one","other","fence","way"] (defScope (top 68)) := ⟨rfl,rfl,rfl,by decide +kernel,rfl,by decide +kernel,by decide +kernel⟩
theorem fn_fence_square {C C9 : Addr} (D_fence_square : DfD K mg "fence_square" (top 68) [.str "on"]) (O_NoFence : ExcC K mg "NoFence" C9) (F_is_fence : Fx P w K mg base "is_fence" ["one","other","thing","way"] 8 [.str "on"] (spIsFence C)) (F_measured_squares : Fn P w K mg base "measured_squares" ["one","other","fence","way"] 9 spMS) (F_number_of_least : Fn P w K mg base "number_of_least" ["fractions"] 2 spNoL) : Fx P w K mg base "fence_square" ["one","other","fence","way"] 10 [.str "on"] (spFSq C9) := by
  refine D_fence_square.fx S_fence_square (fun T kV doc pm an cdv ct us its oT n s hv hl ho hs => ?_) (fun T kV doc pm an cdv ct us its oT n s hv hl ho hs => ?_) (fun vs H Q E h => ?_) (fun f cdv A outer s H vs Q E hr h => ?_)
  · obtain ⟨u,rfl,_⟩ := vals1 hv
    match us,hl with
    | [_,_,_,_],_ => exact BindsTo.of_defaults rfl ho hs rfl rfl
  · obtain ⟨u,rfl,_⟩ := vals1 hv
    have hl1 : us.length = 3 := by simpa using hl
    match us,hl1 with
    | [_,_,_],_ => exact BindsTo.of_defaults rfl ho hs rfl rfl
  · obtain ⟨l1,l2,l,qs,rs,ps,wy,rfl,_⟩ := h
    rfl
  · obtain ⟨l1,l2,l,qs,rs,ps,wy,rfl,⟨L1,h1,h20⟩,⟨L2,g1,g20⟩,PP,hlen,hw,kE,kQ⟩ := h
    refine ⟨_,(pss_cons (ps_if (pt_not (pt_val (pe_fx F_is_fence (hr.mono (by decide)) (by rfl) (pa_cons (pv 0) (pa_cons (pv 1) (pa_cons (pv 2) (pa_cons (pv 3) pa_nil))))))) (pss_one (ps_raise O_NoFence (by rfl))) pss_nil) (pss_cons (ps_set (i := 4) S_fence_square.nd rfl (Or.inl rfl) (pe_fn F_measured_squares (hr.mono (by decide)) (by rfl) (pa_cons (pv 0) (pa_cons (pv 1) (pa_cons (pv 2) (pa_cons (pv 3) pa_nil)))))) (pss_one (ps_ret (pe_ix ix_list (pv 4) (pe_fn F_number_of_least (hr.mono (by decide)) (by rfl) (pa_cons (pv 4) pa_nil)) (fun _ _ => rfl)))))),?_⟩
    have hql : (qs.map fun (q : Addr × Int × Int) => V.ref q.1).length = qs.length := List.length_map _
    have hrl : (rs.map fun (q : Addr × Int × Int) => V.ref q.1).length = rs.length := List.length_map _
    refine ⟨_,rfl,_,rfl,_,rfl,_,rfl,l1,l2,_,_,_,_,_,rfl,⟨L1.lst,by rw [hql]; omega⟩,⟨L2.lst,by rw [hrl]; omega⟩,PP.th (by omega),.str _,.inl ⟨wy,rfl,hw,fun b H1 s1 wv => ⟨_,rfl,ite3 (fun c => ?_) (fun c => ?_)⟩⟩⟩
    · have hb : b = false := by simpa only [Bool.not_eq_true'] using c
      rw [hql,hrl] at wv
      exact kE (by rw [← hb]; exact (fenceV_eq PP wv).symm) H1 s1
    have hb : b = true := by simpa only [Bool.not_eq_false'] using c
    rw [hql,hrl] at wv
    have hwB : fenceB (lst_ qs) (lst_ rs) wy ps = true := by rw [← hb]; exact (fenceV_eq PP wv).symm
    refine ⟨_,rfl,_,rfl,_,rfl,_,rfl,l1,l2,l,qs,rs,ps,wy,rfl,⟨L1.mono s1,h1,h20⟩,⟨L2.mono s1,g1,g20⟩,PP.mono s1,hlen,fence_all hwB,fun r gs H2 F2 hg A B s2 => ?_⟩
    refine ⟨_,rfl,_,rfl,r,gs,rfl,F2,hg,fun k p H3 hk hle _ s3 => ?_⟩
    have F3 := F2.mono s3
    have mp := List.mem_of_getElem? hk
    obtain ⟨b1,b2,S,ms,sub⟩ := A p mp
    refine ⟨r,_,_,_,rfl,rfl,SqL.of F3.lst,atI_nat (j := k) (v := .ref p.1) (by rw [List.getElem?_map,hk]; rfl),kQ hwB p.1 p.2.1 p.2.2 H3 ⟨(F3.fr p mp).1,ms.low,b1,b2⟩ ⟨ms.low,fun a b c d la lc h => ?_,?_⟩ (s1.trans (s2.trans s3))⟩
    · obtain ⟨g,hg,S',ms',h'⟩ := B a b c d h
      exact chain2 ms'.low.pos ms.low.pos (sqD_pos la.pos lc.pos) (ms'.least a b c d la lc h') (hle g hg)
    · obtain ⟨a,b,c,d,la,lc,h,e⟩ := ms.att
      exact ⟨a,b,c,d,la,lc,sub a b c d h,e⟩
def lcE : Nat → Expr → List Scope
  | 0,_ => []
  | n + 1,e => match e with
    | .ListComp _ _ sc _ => [sc]
    | .Call f as _ _ => lcE n f ++ as.flatMap (lcE n)
    | .BoolOp _ vs _ => vs.flatMap (lcE n)
    | .BinOp a _ b _ => lcE n a ++ lcE n b
    | .UnaryOp _ a _ => lcE n a
    | .Compare a _ bs _ => lcE n a ++ bs.flatMap (lcE n)
    | _ => []
def lcS : Nat → Stmt → List Scope
  | 0,_ => []
  | n + 1,s => match s with
    | .Return (some e) _ => lcE 6 e
    | .Assign _ e _ => lcE 6 e
    | .Expr e _ => lcE 6 e
    | .If c b e _ => lcE 6 c ++ (b.flatMap (lcS n) ++ e.flatMap (lcS n))
    | .For _ _ b _ _ => b.flatMap (lcS n)
    | _ => []
def lcA (s : Stmt) (i : Nat) : Scope := ((defBody s).flatMap (lcS 4)).getD i { kind := .function,names := [],isGenerator := false,isCoroutine := false }
theorem walkV_eq {n m : Int} {w : Str} {H : Hp} {l : Addr} {ps : List Pr} {b : Bool} (P : PairsAt H l ps) (h : walkV n m w H (.ref l) b) : b = walkB n m w ps := by
  rcases h with ⟨h1,rfl⟩ | ⟨l',rs,e,P',rfl⟩
  · rw [P.pv] at h1
    cases ps with
    | nil => rfl
    | cons f r =>
      rw [walkB_cons,show (f :: r).all (inB n m) = false from h1,Bool.false_and]
  · cases e
    have e2 := P.lst
    rw [P'.lst] at e2
    have e3 : prs rs = prs ps := by injection e2 with e2; injection e2
    rw [prs_inj P'.pr P.pr e3]
structure MaxSq (qs rs : Crn) (ps : List Pr) (s w : Int) : Prop where
  low : Low s w
  most : ∀ q ∈ ps,sqF qs q.a q.b rs q.c q.d * w ≤ s * sqD q.b q.d
  att : ∃ q ∈ ps,sqF qs q.a q.b rs q.c q.d * w = s * sqD q.b q.d
theorem frac_le {F D s w s' w' : Int} (hD : 0 < D) (hw : 0 < w) (e : F * w = s * D) (h : F * w' ≤ s' * D) : s * w' ≤ s' * w := by
  refine Int.le_of_mul_le_mul_left (a := D) ?_ hD
  have h1 : F * w' * w ≤ s' * D * w := Int.mul_le_mul_of_nonneg_right h (by omega)
  have e1 : D * (s * w') = F * w' * w := by
    have : D * (s * w') = (s * D) * w' := by grind
    rw [this,← e]
    grind
  have e2 : D * (s' * w) = s' * D * w := by grind
  rw [e1,e2]
  exact h1
theorem MaxSq.uniq {qs rs : Crn} {ps : List Pr} {s w s' w' : Int} (pos : ∀ q ∈ ps,0 < q.b ∧ 0 < q.d) (h : MaxSq qs rs ps s w) (h' : MaxSq qs rs ps s' w') : s = s' ∧ w = w' := by
  refine low_unique h.low h'.low (Int.le_antisymm ?_ ?_)
  · obtain ⟨q,hq,e⟩ := h.att
    exact frac_le (sqD_pos (pos q hq).1 (pos q hq).2) h.low.pos e (h'.most q hq)
  · obtain ⟨q,hq,e⟩ := h'.att
    exact frac_le (sqD_pos (pos q hq).1 (pos q hq).2) h'.low.pos e (h.most q hq)
theorem frac_up {F D s w s' w' : Int} (hD : 0 < D) (hw : 0 < w) (e : F * w = s * D) (h : s * w' ≤ s' * w) : F * w' ≤ s' * D := by
  refine Int.le_of_mul_le_mul_left (a := w) ?_ hw
  have h1 : s * w' * D ≤ s' * w * D := Int.mul_le_mul_of_nonneg_right h (by omega)
  have e1 : w * (F * w') = s * w' * D := by
    have : w * (F * w') = (F * w) * w' := by grind
    rw [this,e]
    grind
  have e2 : w * (s' * D) = s' * w * D := by grind
  rw [e1,e2]
  exact h1
inductive spNoG (vs : List V) (H : Hp) (Q : VK) (x_3 : XK) : Prop
  | mk : ∀ (l : Addr) (fs : Crn),(vs = [.ref l]) → (Frs H l fs) → ((1 ≤ fs.length ∧ fs.length < 900)) → (∀ (k : Nat) (p : Addr × Int × Int) (H' : Hp),fs[k]? = some p → (∀ q ∈ fs,leF q p) → Same H H' → Q (.int (k : Int)) H') → spNoG vs H Q x_3
theorem walk_all {n m : Int} {w : Str} {ps : List Pr} (h : walkB n m w ps = true) : ps ≠ [] ∧ ∀ q ∈ ps,inB n m q = true := by
  cases ps with
  | nil => cases h
  | cons f r =>
    rw [walkB_cons,Bool.and_eq_true] at h
    exact ⟨by simp,List.all_eq_true.mp h.1⟩
inductive spWSq (C : Addr) (vs : List V) (H : Hp) (Q : VK) (E : XK) : Prop
  | mk : ∀ (l1 l2 l : Addr) (qs rs : Crn) (ps : List Pr) (wy : Str),(vs = [.ref l1,.ref l2,.ref l,.str wy]) → ((LineAt H l1 qs ∧ 1 ≤ qs.length ∧ qs.length ≤ 20)) → ((LineAt H l2 rs ∧ 1 ≤ rs.length ∧ rs.length ≤ 20)) → (PairsAt H l ps) → (ps.length < 900) → (isWay wy) → ((walkB (lst_ qs) (lst_ rs) wy ps = false → ∀ H',Same H H' → E (.ref C) none H')) → ((walkB (lst_ qs) (lst_ rs) wy ps = true → ∀ (r : Addr) (s w : Int) (H' : Hp),Fr2 H' r s w 2103 → MaxSq qs rs ps s w → Same H H' → Q (.ref r) H')) → spWSq C vs H Q E
theorem S_number_of_greatest : FnScope ["fractions"] ["fractions"] (defScope (top 18)) := ⟨rfl,rfl,rfl,by decide +kernel,rfl,by decide +kernel,by decide +kernel⟩
theorem fn_number_of_greatest (D_number_of_greatest : Df K mg "number_of_greatest" (top 18)) (F_number_of_least : Fn P w K mg base "number_of_least" ["fractions"] 2 spNoL) : Fn P w K mg base "number_of_greatest" ["fractions"] 3 spNoG := by
  refine D_number_of_greatest.fn S_number_of_greatest (fun _ _ _ _ _ _ us hl => by obtain ⟨_,rfl⟩ := len1 hl; rfl) (fun vs H Q E h => ?_) (fun f cdv A outer s H vs Q E hr h => ?_)
  · obtain ⟨l,fs,rfl,_⟩ := h
    rfl
  · obtain ⟨l,fs,rfl,F0,⟨h1,h9⟩,q⟩ := h
    have CN : CompN (cxOf CX0 P w K mg base ["fractions"] "number_of_greatest" (defScope (top 18)) f cdv A outer s H E).nox (Dr.compScope (retExpr ((defBody (top 18)).getD 0 (.Pass ⟨0,0,0,0⟩)))) [] "fraction" [] :=
      ⟨by rfl,rfl,by decide +kernel,by decide +kernel,rfl,(fun p hp => nomatch hp),by rfl,by decide +kernel,(fun p hp => nomatch hp),⟨rfl,rfl⟩,rfl⟩
    refine ⟨_,(pss_one (ps_ret (pe_fn F_number_of_least (hr.mono (by decide)) (by rfl) (pa_cons (pe_compA rfl CN (pi_list (pv 0)) (fun fp s₀ H₀ => (pe_tupA (pa_cons (pe_un un_neg (pe_ix (ix_tupK (K := K) rfl) (pv 0) pe_int (fun _ _ => rfl))) (pa_cons (pe_ix (ix_tupK (K := K) rfl) (pv 0) pe_int (fun _ _ => rfl)) pa_nil))))) pa_nil)))),?_⟩
    refine ⟨_,rfl,l,rfl,⟨_,SqL.of F0.lst⟩,comp_R (SqL.of F0.lst) (by rw [List.length_map]; omega) (fun i v H' => ∃ (pa : Addr) (u : Addr × Int × Int),v = .ref pa ∧ fs[i]? = some u ∧ H' pa = some (.tup [.int (-u.2.1),.int u.2.2])) (fun i v H H' st ⟨pa,u,e,hu,c⟩ => ⟨pa,u,e,hu,st _ _ c⟩) ?_ ?_⟩
    · intro i x H2 Kc hx s2 kk
      rw [List.getElem?_map] at hx
      obtain ⟨u,hu,rfl⟩ := Option.map_eq_some_iff.mp hx
      have c := s2 _ _ (F0.fr u (List.mem_of_getElem? hu)).1
      refine ⟨_,rfl,u.1,_,_,_,rfl,rfl,SqT.of c,rfl,_,rfl,_,rfl,u.1,_,_,_,rfl,rfl,SqT.of c,rfl,sz (by simp),fun pp H3 s3 f3 n3 => kk _ _ s3 ⟨pp,u,rfl,hu,f3⟩⟩
    · intro l2 ys H9 nl2 s9 f9 hly hr
      rw [List.length_map] at hly
      obtain ⟨gs,hgl,hg⟩ := list_of (β := Addr × Int × Int) ys (fun i v g => v = .ref g.1 ∧ ∃ u,fs[i]? = some u ∧ g.2.1 = -u.2.1 ∧ g.2.2 = u.2.2 ∧ H9 g.1 = some (.tup [.int g.2.1,.int g.2.2])) fun i x hx => by
        obtain ⟨pa,u,rfl,hu,c⟩ := hr i x hx
        exact ⟨(pa,-u.2.1,u.2.2),rfl,u,hu,rfl,rfl,c⟩
      have hgi : ∀ (i : Nat) g,gs[i]? = some g → ∃ u,fs[i]? = some u ∧ g.2.1 = -u.2.1 ∧ g.2.2 = u.2.2 ∧ H9 g.1 = some (.tup [.int g.2.1,.int g.2.2]) := fun i g hg' => by
        obtain ⟨y,hy⟩ := get_ex hgl.symm hg'
        exact (hg i y g hy hg').2
      have F9 : Frs H9 l2 gs := by
        refine ⟨by rw [f9]; exact congrArg _ (congrArg _ (map_of hgl fun i x g hx hg' => (hg i x g hx hg').1)),fun g hgm => ?_⟩
        obtain ⟨i,hi,e⟩ := List.getElem_of_mem hgm
        obtain ⟨u,hu,e1,e2,c⟩ := hgi i g (by rw [List.getElem?_eq_getElem hi,e])
        have fu := F0.fr u (List.mem_of_getElem? hu)
        exact ⟨c,by rw [e2]; exact fu.2.1,by rw [e1]; exact bits_neg fu.2.2.1,by rw [e2]; exact fu.2.2.2⟩
      refine ⟨l2,gs,rfl,F9,⟨by omega,by omega⟩,fun k p H' hk hle _ s' => ?_⟩
      obtain ⟨u,hu,e1,e2,_⟩ := hgi k p hk
      refine q k u H' hu (fun v hv => ?_) (s9.trans s')
      obtain ⟨j,hj,e⟩ := List.getElem_of_mem hv
      have hj' : fs[j]? = some v := by rw [List.getElem?_eq_getElem hj,e]
      obtain ⟨g,hg'⟩ := get_ex (ys := gs) (by omega) hj'
      obtain ⟨v',hv',f1,f2,_⟩ := hgi j g hg'
      rw [hj'] at hv'
      cases hv'
      have z := hle g (List.mem_of_getElem? hg')
      unfold leF at z ⊢
      rw [e1,e2,f1,f2,Int.neg_mul,Int.neg_mul] at z
      omega
theorem S_walk_square : FnScope ["one","other","walk","way","squares"] ["one","other","walk","way"] (defScope (top 50)) := ⟨rfl,rfl,rfl,by decide +kernel,rfl,by decide +kernel,by decide +kernel⟩
theorem fn_walk_square {C C2 C9 : Addr} (D_walk_square : DfD K mg "walk_square" (top 50) [.str "on"]) (O_NoWalk : ExcC K mg "NoWalk" C9) (F_is_walk : Fx P w K mg base "is_walk" ["one","other","thing","way"] 7 [.str "on"] (spIsWalk C)) (F_square_of : Fx P w K mg base "square_of" ["one","x","other","y"] 6 [] (spSquare C2)) (F_number_of_greatest : Fn P w K mg base "number_of_greatest" ["fractions"] 3 spNoG) : Fx P w K mg base "walk_square" ["one","other","walk","way"] 8 [.str "on"] (spWSq C9) := by
  refine D_walk_square.fx S_walk_square (fun T kV doc pm an cdv ct us its oT n s hv hl ho hs => ?_) (fun T kV doc pm an cdv ct us its oT n s hv hl ho hs => ?_) (fun vs H Q E h => ?_) (fun f cdv A outer s H vs Q E hr h => ?_)
  · obtain ⟨u,rfl,_⟩ := vals1 hv
    match us,hl with
    | [_,_,_,_],_ => exact BindsTo.of_defaults rfl ho hs rfl rfl
  · obtain ⟨u,rfl,_⟩ := vals1 hv
    have hl1 : us.length = 3 := by simpa using hl
    match us,hl1 with
    | [_,_,_],_ => exact BindsTo.of_defaults rfl ho hs rfl rfl
  · obtain ⟨l1,l2,l,qs,rs,ps,wy,rfl,_⟩ := h
    rfl
  · obtain ⟨l1,l2,l,qs,rs,ps,wy,rfl,⟨L1,h1,h20⟩,⟨L2,g1,g20⟩,PP,hlen,hw,kE,kQ⟩ := h
    have hql : (qs.map fun (q : Addr × Int × Int) => V.ref q.1).length = qs.length := List.length_map _
    have hrl : (rs.map fun (q : Addr × Int × Int) => V.ref q.1).length = rs.length := List.length_map _
    have CN : CompN (cxOf (CXE P w) P w K mg base ["one","other","walk","way","squares"] "walk_square" (defScope (top 50)) f cdv A outer s H E) (setScope ((defBody (top 50)).getD 1 (.Pass ⟨0,0,0,0⟩))) [("other",s.heap.objs.size + 2),("one",s.heap.objs.size + 1)] "pair" [("one",0),("other",1)] :=
      ⟨by rfl,rfl,by decide +kernel,by decide +kernel,rfl,(fun p hp => by simp only [List.mem_cons,List.not_mem_nil,or_false] at hp; rcases hp with rfl | rfl <;> rfl),by rfl,by decide +kernel,(fun p hp => by simp only [List.mem_cons,List.not_mem_nil,or_false] at hp; rcases hp with rfl | rfl <;> exact ⟨rfl,rfl,.inr (.inl rfl),rfl,rfl⟩),⟨rfl,rfl⟩,rfl⟩
    refine ⟨_,(pss_cons (ps_if (pt_not (pt_val (pe_fx F_is_walk (hr.mono (by decide)) (by rfl) (pa_cons (pv 0) (pa_cons (pv 1) (pa_cons (pv 2) (pa_cons (pv 3) pa_nil))))))) (pss_one (ps_raise O_NoWalk (by rfl))) pss_nil) (pss_cons (ps_setCompA (j := 4) rfl CN S_walk_square.nd rfl rfl (pi_list (pv 2)) (fun fp s₀ H₀ => (pe_fx0 F_square_of (hr.mono (by decide)) (by rfl) (pa_cons (pv 1) (pa_cons (pe_ix (ix_tupK (K := K) rfl) (pv 0) pe_int (fun _ _ => rfl)) (pa_cons (pv 2) (pa_cons (pe_ix (ix_tupK (K := K) rfl) (pv 0) pe_int (fun _ _ => rfl)) pa_nil))))))) (pss_one (ps_ret (pe_ix ix_list (pv 4) (pe_fn F_number_of_greatest (hr.mono (by decide)) (by rfl) (pa_cons (pv 4) pa_nil)) (fun _ _ => rfl)))))),?_⟩
    refine ⟨_,rfl,_,rfl,_,rfl,_,rfl,l1,l2,_,_,_,_,_,rfl,⟨L1.lst,by rw [hql]; omega⟩,⟨L2.lst,by rw [hrl]; omega⟩,PP.th hlen,.str _,.inl ⟨wy,rfl,hw,fun b H1 s1 wv => ⟨_,rfl,ite3 (fun c => ?_) (fun c => ?_)⟩⟩⟩
    · have hb : b = false := by simpa only [Bool.not_eq_true'] using c
      rw [hql,hrl] at wv
      exact kE (by rw [← hb]; exact (walkV_eq PP wv).symm) H1 s1
    have hb : b = true := by simpa only [Bool.not_eq_false'] using c
    rw [hql,hrl] at wv
    have hwB : walkB (lst_ qs) (lst_ rs) wy ps = true := by rw [← hb]; exact (walkV_eq PP wv).symm
    obtain ⟨hne,hin⟩ := walk_all hwB
    have P1 := PP.mono s1
    refine ⟨_,rfl,l,rfl,⟨_,SqL.of P1.lst⟩,comp_R (SqL.of P1.lst) (by rw [prs_len]; omega) (fun i v H' => ∃ (q : Pr) (r : Addr) (s w : Int),v = .ref r ∧ ps[i]? = some q ∧ Frac (sqF qs q.a q.b rs q.c q.d) (sqD q.b q.d) s w ∧ (bits s ≤ 2103 ∧ bits w ≤ 2103) ∧ H' r = some (.tup [.int s,.int w])) (fun i v H H' st ⟨q,r,s,w,e,hq,fr,bd,c⟩ => ⟨q,r,s,w,e,hq,fr,bd,st _ _ c⟩) ?_ ?_⟩
    · intro i x H2 Kc hx s2 kk
      obtain ⟨q,hq,rfl⟩ := prs_get hx
      have mq := List.mem_of_getElem? hq
      have pq := (P1.mono s2).pr q mq
      have hi := hin q mq
      have plx := pq.plx hi (show lst_ qs ≤ 100 by unfold lst_; omega)
      have ply := pq.ply hi (show lst_ rs ≤ 100 by unfold lst_; omega)
      refine ⟨_,rfl,_,rfl,q.p,_,_,_,rfl,rfl,SqT.of pq.p_,rfl,_,rfl,_,rfl,q.p,_,_,_,rfl,rfl,SqT.of pq.p_,rfl,l1,l2,qs,rs,_,_,rfl,(L1.mono s1).mono s2,(L2.mono s1).mono s2,⟨h1,h20⟩,⟨g1,g20⟩,plx.th,ply.th,.inr ⟨q.x,q.a,q.b,rfl,plx,.inr ⟨q.y,q.c,q.d,rfl,ply,fun r s' w' H3 fr f3 s3 => ?_⟩⟩⟩
      exact kk _ _ s3 ⟨q,r,s',w',rfl,hq,fr,⟨f3.ba,f3.bb⟩,f3.at_⟩
    · intro l5 ys H9 nl5 s9 f9 hly hr
      rw [prs_len] at hly
      obtain ⟨gs,hgl,hg⟩ := list_of (β := Addr × Int × Int) ys (fun i v g => v = .ref g.1 ∧ ∃ q,ps[i]? = some q ∧ Frac (sqF qs q.a q.b rs q.c q.d) (sqD q.b q.d) g.2.1 g.2.2 ∧ (bits g.2.1 ≤ 2103 ∧ bits g.2.2 ≤ 2103) ∧ H9 g.1 = some (.tup [.int g.2.1,.int g.2.2])) fun i x hx => by
        obtain ⟨q,r,s',w',rfl,hq,fr,bd,c⟩ := hr i x hx
        exact ⟨(r,s',w'),rfl,q,hq,fr,bd,c⟩
      have hgi : ∀ (i : Nat) g,gs[i]? = some g → ∃ q,ps[i]? = some q ∧ Frac (sqF qs q.a q.b rs q.c q.d) (sqD q.b q.d) g.2.1 g.2.2 ∧ (bits g.2.1 ≤ 2103 ∧ bits g.2.2 ≤ 2103) ∧ H9 g.1 = some (.tup [.int g.2.1,.int g.2.2]) := fun i g hg' => by
        obtain ⟨y,hy⟩ := get_ex hgl.symm hg'
        exact (hg i y g hy hg').2
      have F9 : Frs H9 l5 gs := by
        refine ⟨by rw [f9]; exact congrArg _ (congrArg _ (map_of hgl fun i x g hx hg' => (hg i x g hx hg').1)),fun g hgm => ?_⟩
        obtain ⟨i,hi,e⟩ := List.getElem_of_mem hgm
        obtain ⟨q,hq,fr,bd,c⟩ := hgi i g (by rw [List.getElem?_eq_getElem hi,e])
        exact ⟨c,fr.low.pos,bits_le bd.1 (by decide),bits_le bd.2 (by decide)⟩
      have hp0 : 0 < ps.length := List.length_pos_iff.mpr hne
      refine ⟨_,rfl,_,rfl,l5,gs,rfl,F9,⟨by omega,by omega⟩,fun k p H' hk hle s' => ?_⟩
      have F10 := F9.mono s'
      obtain ⟨q,hq,fr,bd,c⟩ := hgi k p hk
      refine ⟨l5,_,_,_,rfl,rfl,SqL.of F10.lst,atI_nat (j := k) (v := .ref p.1) (by rw [List.getElem?_map,hk]; rfl),kQ hwB p.1 p.2.1 p.2.2 H' ⟨(F10.fr p (List.mem_of_getElem? hk)).1,fr.low,bd.1,bd.2⟩ ⟨fr.low,fun u hu => ?_,q,List.mem_of_getElem? hq,fr.eq⟩ (s1.trans (s9.trans s'))⟩
      obtain ⟨j,hj,e⟩ := List.getElem_of_mem hu
      have hj' : ps[j]? = some u := by rw [List.getElem?_eq_getElem hj,e]
      obtain ⟨g,hg'⟩ := get_ex (ys := gs) (by omega) hj'
      obtain ⟨u',hu',fr',_,_⟩ := hgi j g hg'
      rw [hj'] at hu'
      cases hu'
      have pu := PP.pr u hu
      exact frac_up (sqD_pos pu.lx.pos pu.ly.pos) fr'.low.pos fr'.eq (hle g (List.mem_of_getElem? hg'))
theorem seg_hi {t b : Int} {n a : Nat} (hb : 0 < b) (hn : a + 2 ≤ n) (h0 : (a : Int) * b ≤ t) (h1 : t ≤ ((n : Int) - 1) * b) : ∃ k : Nat,a ≤ k ∧ k + 1 < n ∧ (k : Int) * b ≤ t ∧ t ≤ ((k : Int) + 1) * b := by
  have e : ((n - a : Nat) : Int) = (n : Int) - (a : Int) := by omega
  obtain ⟨k,hk,g1,g2⟩ := seg (t := t - (a : Int) * b) (n := n - a) hb (by omega) (by omega) (by rw [e,show (n : Int) - (a : Int) - 1 = ((n : Int) - 1) - (a : Int) by omega,Int.sub_mul]; omega)
  refine ⟨a + k,by omega,by omega,?_,?_⟩
  · rw [Int.natCast_add,Int.add_mul]; omega
  · rw [Int.natCast_add,show (a : Int) + (k : Int) + 1 = (a : Int) + ((k : Int) + 1) by omega,Int.add_mul]; omega
def Cd (c : Int × Int → Int) : Prop := c = (fun z => z.1) ∨ c = (fun z => z.2)
def AL (qs : Crn) (t b : Int) (qs' : Crn) (t' b' : Int) : Prop := ∀ c,Cd c → ptC c qs t b * b' = ptC c qs' t' b' * b
theorem al_part {qs qs' : Crn} {t b : Int} {k k' : Nat} (hb : 0 < b) (hk : k + 1 < qs.length) (hk' : k' + 1 < qs'.length) (h1 : (k : Int) * b ≤ t) (h2 : t ≤ ((k : Int) + 1) * b) (e0 : ∀ c,cr c qs' k' = cr c qs k) (e1 : ∀ c,cr c qs' (k' + 1) = cr c qs (k + 1)) (t' : Int) (et : t' = t + ((k' : Int) - (k : Int)) * b) : AL qs t b qs' t' b := by
  intro c hc
  have g1 : (k' : Int) * b ≤ t' := by rw [et,Int.sub_mul]; omega
  have g2 : t' ≤ ((k' : Int) + 1) * b := by rw [et,Int.sub_mul]; rw [Int.add_mul] at h2 ⊢; omega
  rw [pt_on hb hk h1 h2,pt_on hb hk' g1 g2,e0,e1]
  have : t' - (k' : Int) * b = t - (k : Int) * b := by rw [et,Int.sub_mul]; omega
  rw [this]
theorem dbl_hi {qs : Crn} {a j : Nat} (h : a ≤ j) (ha : a < qs.length) : (qs.take (a + 1) ++ qs.drop a).getD (j + 1) (0,0,0) = qs.getD j (0,0,0) := by
  rw [List.getD_eq_getElem?_getD,List.getD_eq_getElem?_getD,List.getElem?_append_right (by rw [List.length_take]; omega),List.length_take,List.getElem?_drop]
  congr 2
  omega
theorem dbl_len {qs : Crn} {a : Nat} (ha : a < qs.length) : (qs.take (a + 1) ++ qs.drop a).length = qs.length + 1 := by
  rw [List.length_append,List.length_take,List.length_drop]; omega
theorem al_dbl_hi {qs : Crn} {a : Nat} {t b : Int} (hb : 0 < b) (ha : a + 1 < qs.length) (h0 : (a : Int) * b ≤ t) (h1 : t ≤ ((qs.length : Int) - 1) * b) : AL qs t b (qs.take (a + 1) ++ qs.drop a) (t + b) b := by
  obtain ⟨k,hak,hk,g1,g2⟩ := seg_hi hb (by omega) h0 h1
  refine al_part (k := k) (k' := k + 1) hb hk (by rw [dbl_len (by omega)]; omega) g1 g2 (fun c => ?_) (fun c => ?_) (t + b) (by rw [Int.natCast_add,show (k : Int) + ((1 : Nat) : Int) - (k : Int) = 1 by omega,Int.one_mul])
  · unfold cr; rw [dbl_hi hak (by omega)]
  · unfold cr; rw [dbl_hi (by omega) (by omega)]
theorem rev_get {qs : Crn} {j : Nat} (h : j < qs.length) : qs.reverse.getD j (0,0,0) = qs.getD (qs.length - 1 - j) (0,0,0) := by
  rw [List.getD_eq_getElem?_getD,List.getD_eq_getElem?_getD,List.getElem?_reverse h]
theorem al_rev {qs : Crn} {t b : Int} (hb : 0 < b) (hn : 2 ≤ qs.length) (h0 : 0 ≤ t) (h1 : t ≤ ((qs.length : Int) - 1) * b) : AL qs t b qs.reverse (((qs.length : Int) - 1) * b - t) b := by
  obtain ⟨k,hk,g1,g2⟩ := seg hb hn h0 h1
  intro c hc
  have ek : ((qs.length - 2 - k : Nat) : Int) = (qs.length : Int) - 1 - ((k : Int) + 1) := by omega
  have m1 : ((qs.length : Int) - 1 - ((k : Int) + 1)) * b = ((qs.length : Int) - 1) * b - ((k : Int) + 1) * b := Int.sub_mul _ _ _
  have m2 : ((qs.length : Int) - 1 - ((k : Int) + 1) + 1) * b = ((qs.length : Int) - 1) * b - (k : Int) * b := by rw [show (qs.length : Int) - 1 - ((k : Int) + 1) + 1 = (qs.length : Int) - 1 - (k : Int) by omega,Int.sub_mul]
  have m3 : ((k : Int) + 1) * b = (k : Int) * b + b := by rw [Int.add_mul,Int.one_mul]
  rw [pt_on hb hk g1 g2,pt_on (k := qs.length - 2 - k) hb (by rw [List.length_reverse]; omega) (by rw [ek,m1]; omega) (by rw [ek,m2]; omega)]
  have e1 : cr c qs.reverse (qs.length - 2 - k) = cr c qs (k + 1) := by unfold cr; rw [rev_get (by omega),show qs.length - 1 - (qs.length - 2 - k) = k + 1 by omega]
  have e2 : cr c qs.reverse (qs.length - 2 - k + 1) = cr c qs k := by unfold cr; rw [rev_get (by omega),show qs.length - 1 - (qs.length - 2 - k + 1) = k by omega]
  rw [e1,e2,ek,m1,m3]
  generalize cr c qs k = x
  generalize cr c qs (k + 1) = y
  generalize (k : Int) * b = u
  generalize ((qs.length : Int) - 1) * b = v
  grind
theorem al_pt {qs qs' : Crn} {t t' b : Int} (hb : 0 < b) (h : AL qs t b qs' t' b) : ptX qs' t' b = ptX qs t b ∧ ptY qs' t' b = ptY qs t b :=
  ⟨(Int.eq_of_mul_eq_mul_right (show b ≠ 0 by omega) (h (fun z => z.1) (.inl rfl))).symm,(Int.eq_of_mul_eq_mul_right (show b ≠ 0 by omega) (h (fun z => z.2) (.inr rfl))).symm⟩
theorem pt_rev {qs : Crn} {t b : Int} (hb : 0 < b) (hn : 1 ≤ qs.length) (h0 : 0 ≤ t) (h1 : t ≤ lst_ qs * b) : ptX qs.reverse (lst_ qs * b - t) b = ptX qs t b ∧ ptY qs.reverse (lst_ qs * b - t) b = ptY qs t b := by
  by_cases h2 : 2 ≤ qs.length
  · exact al_pt hb (al_rev hb h2 h0 h1)
  · obtain ⟨q,rfl⟩ := len1 (xs := qs) (by omega)
    have e : lst_ [q] * b = 0 := by show ((1 : Int) - 1) * b = 0; simp
    rw [e] at h1 ⊢
    have : t = 0 := by omega
    subst this
    exact ⟨rfl,rfl⟩
theorem pt_dbl {qs : Crn} {t b : Int} (hb : 0 < b) (hn : 1 ≤ qs.length) (h0 : 0 ≤ t) (h1 : t ≤ lst_ qs * b) : ptX (qs.take 1 ++ qs) (t + b) b = ptX qs t b ∧ ptY (qs.take 1 ++ qs) (t + b) b = ptY qs t b := by
  by_cases h2 : 2 ≤ qs.length
  · have h := al_dbl_hi (a := 0) (qs := qs) (t := t) hb (by omega) (by simp; omega) h1
    rw [List.drop_zero] at h
    exact al_pt hb h
  · obtain ⟨q,rfl⟩ := len1 (xs := qs) (by omega)
    have e : lst_ [q] * b = 0 := by show ((1 : Int) - 1) * b = 0; simp
    rw [e] at h1
    have : t = 0 := by omega
    subst this
    rw [Int.zero_add]
    unfold ptX ptY Sp11.numAt side0 side1
    rw [Int.ediv_self (show b ≠ 0 by omega),Int.zero_ediv,Int.emod_self,Int.zero_emod]
    exact ⟨rfl,rfl⟩
theorem pt_dbl0 {qs : Crn} (hn : 1 ≤ qs.length) : ptX (qs.take 1 ++ qs) 0 1 = ptX qs 0 1 ∧ ptY (qs.take 1 ++ qs) 0 1 = ptY qs 0 1 := by
  match qs,hn with
  | q :: r,_ =>
    unfold ptX ptY Sp11.numAt side0 side1
    simp
theorem share_ex {a b c d : Int} (hb : 0 < b) (hd : 0 < d) (h : shareB a b c d = true) : ∃ k : Int,k * b ≤ a ∧ a ≤ (k + 1) * b ∧ k * d ≤ c ∧ c ≤ (k + 1) * d := by
  unfold shareB at h
  by_cases g : c * b < a * d
  · rw [if_pos g] at h
    have h : ¬ (c / d + 1) * b < a * 1 := by simpa using h
    refine ⟨c / d,?_,by omega,fl_le hd,by have := fl_lt (a := c) hd; omega⟩
    have q := Int.mul_le_mul_of_nonneg_right (fl_le (a := c) hd) (show 0 ≤ b by omega)
    refine Int.le_of_mul_le_mul_right (a := d) ?_ hd
    rw [show c / d * b * d = c / d * d * b by grind]
    omega
  · rw [if_neg g] at h
    have h : ¬ (a / b + 1) * d < c * 1 := by simpa using h
    refine ⟨a / b,fl_le hb,by have := fl_lt (a := a) hb; omega,?_,by omega⟩
    have q := Int.mul_le_mul_of_nonneg_right (fl_le (a := a) hb) (show 0 ≤ d by omega)
    refine Int.le_of_mul_le_mul_right (a := b) ?_ hb
    rw [show a / b * d * b = a / b * b * d by grind]
    omega
theorem share_turn {a b c d n : Int} (hb : 0 < b) (hd : 0 < d) (h : shareB a b c d = true) : shareB (n * d - c) d (n * b - a) b = true := by
  obtain ⟨k,h1,h2,h3,h4⟩ := share_ex hb hd h
  refine share_of (k := n - 1 - k) hd hb ?_ ?_ ?_ ?_
  · rw [show (n - 1 - k) * d = n * d - (k + 1) * d by grind]; omega
  · rw [show (n - 1 - k + 1) * d = n * d - k * d by grind]; omega
  · rw [show (n - 1 - k) * b = n * b - (k + 1) * b by grind]; omega
  · rw [show (n - 1 - k + 1) * b = n * b - k * b by grind]; omega
theorem share_sw {a b c d : Int} (hb : 0 < b) (hd : 0 < d) (h : shareB a b c d = true) : shareB c d a b = true := by
  obtain ⟨k,h1,h2,h3,h4⟩ := share_ex hb hd h
  exact share_of (k := k) hd hb h3 h4 h1 h2
theorem share_on {a b c d : Int} (hb : 0 < b) (hd : 0 < d) (h : shareB a b c d = true) : shareB (a + b) b (c + d) d = true := by
  obtain ⟨k,h1,h2,h3,h4⟩ := share_ex hb hd h
  refine share_of (k := k + 1) hb hd ?_ ?_ ?_ ?_
  · rw [show (k + 1) * b = k * b + b by grind]; omega
  · rw [show (k + 1 + 1) * b = (k + 1) * b + b by grind]; omega
  · rw [show (k + 1) * d = k * d + d by grind]; omega
  · rw [show (k + 1 + 1) * d = (k + 1) * d + d by grind]; omega
theorem go_iff {wy : Str} {a b c d : Int} : goB wy a b c d = true ↔ (wy = wHops ∧ b = 1 ∧ d = 1 ∧ (c - a = 0 ∨ c - a = 1)) ∨ (¬ wy = wHops ∧ wy = wFree ∧ shareB a b c d = true) ∨ (¬ wy = wHops ∧ ¬ wy = wFree ∧ ¬ c * b < a * d ∧ shareB a b c d = true) := by
  unfold goB
  by_cases h1 : wy = wHops
  · rw [if_pos h1]
    simp [h1]
  · rw [if_neg h1]
    by_cases h2 : wy = wFree
    · rw [if_pos h2]
      exact ⟨fun h => .inr (.inl ⟨h1,h2,h⟩),fun h => by
        rcases h with ⟨z,_⟩ | ⟨_,_,h⟩ | ⟨_,z,_⟩
        · exact absurd z h1
        · exact h
        · exact absurd h2 z⟩
    · rw [if_neg h2]
      simp [h1,h2]
theorem go_turn {wy : Str} {a b c d n : Int} (hb : 0 < b) (hd : 0 < d) (h : goB wy a b c d = true) : goB wy (n * d - c) d (n * b - a) b = true := by
  rw [go_iff] at h ⊢
  rcases h with ⟨h1,rfl,rfl,h⟩ | ⟨h1,h2,h⟩ | ⟨h1,h2,h3,h⟩
  · exact .inl ⟨h1,rfl,rfl,by omega⟩
  · exact .inr (.inl ⟨h1,h2,share_turn hb hd h⟩)
  · refine .inr (.inr ⟨h1,h2,?_,share_turn hb hd h⟩)
    rw [show (n * b - a) * d = n * b * d - a * d by grind,show (n * d - c) * b = n * b * d - c * b by grind]
    omega
theorem go_on1 {wy : Str} {a b c d : Int} (hb : 0 < b) (hd : 0 < d) (h : goB wy a b c d = true) : goB wy (a + b) b (c + d) d = true := by
  rw [go_iff] at h ⊢
  rcases h with ⟨h1,rfl,rfl,h⟩ | ⟨h1,h2,h⟩ | ⟨h1,h2,h3,h⟩
  · exact .inl ⟨h1,rfl,rfl,by omega⟩
  · exact .inr (.inl ⟨h1,h2,share_on hb hd h⟩)
  · refine .inr (.inr ⟨h1,h2,?_,share_on hb hd h⟩)
    rw [show (c + d) * b = c * b + d * b by grind,show (a + b) * d = a * d + d * b by grind]
    omega
theorem walkB_of {n m : Int} {w : Str} {L : List Pr} : walkB n m w L = true ↔ ∃ f l,L.head? = some f ∧ L.getLast? = some l ∧ L.all (inB n m) = true ∧ endsB n m w f l = true ∧ stepsB w L = true := by
  cases L with
  | nil => simp [walkB]
  | cons f r =>
    rw [walkB_cons,Bool.and_eq_true,Bool.and_eq_true]
    constructor
    · rintro ⟨h1,h2,h3⟩
      exact ⟨f,_,rfl,List.getLast?_eq_some_getLast (by simp),h1,h2,h3⟩
    · rintro ⟨f',l,e1,e2,h1,h2,h3⟩
      cases e1
      rw [List.getLast?_eq_some_getLast (by simp)] at e2
      cases e2
      exact ⟨h1,h2,h3⟩
structure Gd (q : Pr) : Prop where
  lx : Low q.a q.b
  ly : Low q.c q.d
  nx : 0 ≤ q.a
  ny : 0 ≤ q.c
theorem gd_of {H : Hp} {q : Pr} (h : PrAt H q) : Gd q := ⟨h.lx,h.ly,h.nx,h.ny⟩
structure CH (I : Pr → Prop) (E S : Pr → Pr → Prop) (ps : List Pr) : Prop where
  ne : 0 < ps.length
  i : ∀ q ∈ ps,I q
  e : ∀ f l,ps[0]? = some f → ps[ps.length - 1]? = some l → E f l
  s : ∀ (j : Nat) u v,ps[j]? = some u → ps[j + 1]? = some v → S u v
theorem walk_ch {n m : Int} {wy : Str} {ps : List Pr} : walkB n m wy ps = true ↔ CH (fun q => inB n m q = true) (fun f l => endsB n m wy f l = true) (fun u v => stepB wy u v = true) ps := by
  rw [walkB_of]
  constructor
  · rintro ⟨f,l,h1,h2,h3,h4,h5⟩
    rw [List.head?_eq_getElem?] at h1
    rw [List.getLast?_eq_getElem?] at h2
    refine ⟨(List.getElem?_eq_some_iff.mp h1).1,List.all_eq_true.mp h3,fun f' l' e1 e2 => ?_,steps_iff.mp h5⟩
    rw [h1] at e1; rw [h2] at e2; cases e1; cases e2
    exact h4
  · rintro ⟨h1,h2,h3,h4⟩
    have e1 : ps[0]? = some ps[0] := List.getElem?_eq_getElem h1
    have e2 : ps[ps.length - 1]? = some ps[ps.length - 1] := List.getElem?_eq_getElem (by omega)
    exact ⟨ps[0],ps[ps.length - 1],by rw [List.head?_eq_getElem?]; exact e1,by rw [List.getLast?_eq_getElem?]; exact e2,List.all_eq_true.mpr h2,h3 _ _ e1 e2,steps_iff.mpr h4⟩
theorem fence_ch {n m : Int} {wy : Str} {ps : List Pr} : fenceB n m wy ps = true ↔ CH (fun q => inB n m q = true ∧ (wy = wHops → wholeB q = true)) (fun f l => fendsB n m wy f l = true) (fun u v => mayB wy u v = true) ps := by
  rw [fenceB_of]
  constructor
  · rintro ⟨f,l,h1,h2,h3,h4,h5,h6⟩
    rw [List.head?_eq_getElem?] at h1
    rw [List.getLast?_eq_getElem?] at h2
    refine ⟨(List.getElem?_eq_some_iff.mp h1).1,fun q hq => ⟨List.all_eq_true.mp h3 q hq,fun z => ?_⟩,fun f' l' e1 e2 => ?_,fsteps_iff.mp h6⟩
    · rw [if_pos z] at h4
      exact List.all_eq_true.mp h4 q hq
    · rw [h1] at e1; rw [h2] at e2; cases e1; cases e2
      exact h5
  · rintro ⟨h1,h2,h3,h4⟩
    have e1 : ps[0]? = some ps[0] := List.getElem?_eq_getElem h1
    have e2 : ps[ps.length - 1]? = some ps[ps.length - 1] := List.getElem?_eq_getElem (by omega)
    refine ⟨ps[0],ps[ps.length - 1],by rw [List.head?_eq_getElem?]; exact e1,by rw [List.getLast?_eq_getElem?]; exact e2,List.all_eq_true.mpr fun q hq => (h2 q hq).1,?_,h3 _ _ e1 e2,fsteps_iff.mpr h4⟩
    by_cases z : wy = wHops
    · rw [if_pos z]
      exact List.all_eq_true.mpr fun q hq => (h2 q hq).2 z
    · rw [if_neg z]
structure Im (r : Bool) (φ : Pr → Pr → Prop) (ps ps' : List Pr) : Prop where
  len : ps'.length = ps.length
  at_ : ∀ (j : Nat) q',ps'[j]? = some q' → ∃ q,ps[if r = true then ps.length - 1 - j else j]? = some q ∧ φ q q'
theorem Im.to {r : Bool} {φ : Pr → Pr → Prop} {ps ps' : List Pr} (h : Im r φ ps ps') : ∀ (j : Nat) q,ps[j]? = some q → ∃ q',ps'[if r = true then ps.length - 1 - j else j]? = some q' ∧ φ q q' := fun j q hq => by
  have hj := (List.getElem?_eq_some_iff.mp hq).1
  have hl := h.len
  cases r with
  | true =>
    have e : ps'[ps.length - 1 - j]? = some ps'[ps.length - 1 - j] := List.getElem?_eq_getElem (by have := h.len; omega)
    obtain ⟨p,hp,hf⟩ := h.at_ _ _ e
    rw [if_pos rfl,show ps.length - 1 - (ps.length - 1 - j) = j by omega,hq] at hp
    cases hp
    exact ⟨_,e,hf⟩
  | false =>
    have e : ps'[j]? = some ps'[j] := List.getElem?_eq_getElem (by have := h.len; omega)
    obtain ⟨p,hp,hf⟩ := h.at_ _ _ e
    rw [if_neg (by decide),hq] at hp
    cases hp
    exact ⟨_,e,hf⟩
theorem Im.mem {r : Bool} {φ : Pr → Pr → Prop} {ps ps' : List Pr} (h : Im r φ ps ps') {q' : Pr} (hq : q' ∈ ps') : ∃ q ∈ ps,φ q q' := by
  obtain ⟨j,hj⟩ := List.mem_iff_getElem?.mp hq
  obtain ⟨q,hq,hf⟩ := h.at_ j q' hj
  exact ⟨q,List.mem_of_getElem? hq,hf⟩
theorem Im.mem' {r : Bool} {φ : Pr → Pr → Prop} {ps ps' : List Pr} (h : Im r φ ps ps') {q : Pr} (hq : q ∈ ps) : ∃ q' ∈ ps',φ q q' := by
  obtain ⟨j,hj⟩ := List.mem_iff_getElem?.mp hq
  obtain ⟨q',hq,hf⟩ := h.to j q hj
  exact ⟨q',List.mem_of_getElem? hq,hf⟩
theorem CH.rev {I I' : Pr → Prop} {E S E' S' : Pr → Pr → Prop} {φ : Pr → Pr → Prop} {ps ps' : List Pr} (h : CH I E S ps) (m : Im true φ ps ps') (hI : ∀ q q',q ∈ ps → φ q q' → I q → I' q') (hE : ∀ f l f' l',f ∈ ps → l ∈ ps → φ f f' → φ l l' → E f l → E' l' f') (hS : ∀ u v u' v',u ∈ ps → v ∈ ps → φ u u' → φ v v' → S u v → S' v' u') : CH I' E' S' ps' := by
  have hl := m.len
  have h0 := h.ne
  refine ⟨by omega,fun q' hq => ?_,fun f' l' e1 e2 => ?_,fun j u' v' e1 e2 => ?_⟩
  · obtain ⟨q,mq,hf⟩ := m.mem hq
    exact hI q q' mq hf (h.i q mq)
  · obtain ⟨l,a1,b1⟩ := m.at_ _ _ e1
    obtain ⟨f,a2,b2⟩ := m.at_ _ _ e2
    rw [if_pos rfl] at a1 a2
    rw [hl,show ps.length - 1 - (ps.length - 1) = 0 by omega] at a2
    exact hE f l l' f' (List.mem_of_getElem? a2) (List.mem_of_getElem? a1) b2 b1 (h.e f l a2 a1)
  · have := (List.getElem?_eq_some_iff.mp e2).1
    obtain ⟨v,a1,b1⟩ := m.at_ _ _ e1
    obtain ⟨u,a2,b2⟩ := m.at_ _ _ e2
    rw [if_pos rfl] at a1 a2
    rw [show ps.length - 1 - j = ps.length - 1 - (j + 1) + 1 by omega] at a1
    exact hS u v v' u' (List.mem_of_getElem? a2) (List.mem_of_getElem? a1) b2 b1 (h.s _ u v a2 a1)
theorem CH.fwd {I I' : Pr → Prop} {E S E' S' : Pr → Pr → Prop} {φ : Pr → Pr → Prop} {ps ps' : List Pr} (h : CH I E S ps) (m : Im false φ ps ps') (hI : ∀ q q',q ∈ ps → φ q q' → I q → I' q') (hE : ∀ f l f' l',f ∈ ps → l ∈ ps → φ f f' → φ l l' → E f l → E' f' l') (hS : ∀ u v u' v',u ∈ ps → v ∈ ps → φ u u' → φ v v' → S u v → S' u' v') : CH I' E' S' ps' := by
  have hl := m.len
  have h0 := h.ne
  refine ⟨by omega,fun q' hq => ?_,fun f' l' e1 e2 => ?_,fun j u' v' e1 e2 => ?_⟩
  · obtain ⟨q,mq,hf⟩ := m.mem hq
    exact hI q q' mq hf (h.i q mq)
  · obtain ⟨f,a1,b1⟩ := m.at_ _ _ e1
    obtain ⟨l,a2,b2⟩ := m.at_ _ _ e2
    rw [if_neg (by decide)] at a1 a2
    rw [hl] at a2
    exact hE f l f' l' (List.mem_of_getElem? a1) (List.mem_of_getElem? a2) b1 b2 (h.e f l a1 a2)
  · obtain ⟨u,a1,b1⟩ := m.at_ _ _ e1
    obtain ⟨v,a2,b2⟩ := m.at_ _ _ e2
    rw [if_neg (by decide)] at a1 a2
    exact hS u v u' v' (List.mem_of_getElem? a1) (List.mem_of_getElem? a2) b1 b2 (h.s _ u v a1 a2)
theorem CH.cons {I : Pr → Prop} {E S E' : Pr → Pr → Prop} {f : Pr} {ps : List Pr} (h : CH I E S ps) (hI : I f) (hS : ∀ g,ps[0]? = some g → S f g) (hE : ∀ g l,ps[0]? = some g → ps[ps.length - 1]? = some l → E g l → E' f l) : CH I E' S (f :: ps) := by
  have h0 := h.ne
  refine ⟨by simp,fun q hq => ?_,fun f' l e1 e2 => ?_,fun j u v e1 e2 => ?_⟩
  · rcases List.mem_cons.mp hq with rfl | hq
    · exact hI
    · exact h.i q hq
  · cases e1
    have e : ps[0]? = some ps[0] := List.getElem?_eq_getElem h0
    have e2 : ps[ps.length - 1]? = some l := by
      rw [← e2,List.length_cons,show ps.length + 1 - 1 = ps.length - 1 + 1 by omega,List.getElem?_cons_succ]
    exact hE _ l e e2 (h.e _ l e e2)
  · cases j with
    | zero => cases e1; exact hS v (by simpa using e2)
    | succ j => exact h.s j u v (by simpa using e1) (by simpa using e2)
def Tn (n m : Int) (q q' : Pr) : Prop := (q'.a = n * q.b - q.a ∧ q'.b = q.b) ∧ q'.c = m * q.d - q.c ∧ q'.d = q.d
def Sw (q q' : Pr) : Prop := (q'.a = q.c ∧ q'.b = q.d) ∧ q'.c = q.a ∧ q'.d = q.b
def Fu (q q' : Pr) : Prop := (q'.a = q.a + q.b ∧ q'.b = q.b) ∧ q'.c = q.c ∧ q'.d = q.d
theorem in_iff {n m : Int} {q : Pr} : inB n m q = true ↔ q.a ≤ n * q.b ∧ q.c ≤ m * q.d := by
  unfold inB
  simp
theorem ends_iff {n m : Int} {wy : Str} {f l : Pr} : endsB n m wy f l = true ↔ ((f.a = 0 ∧ f.b = 1) ∧ l.a = n ∧ l.b = 1) ∧ (¬ wy = wPart → (f.c = 0 ∧ f.d = 1) ∧ l.c = m ∧ l.d = 1) := by
  unfold endsB isP
  by_cases h : wy = wPart
  · simp [h]
  · simp [h]
theorem step_iff {wy : Str} {u v : Pr} : stepB wy u v = true ↔ goB wy u.a u.b v.a v.b = true ∧ goB wy u.c u.d v.c v.d = true := by
  unfold stepB
  rw [Bool.and_eq_true]
theorem walk_turn {n m : Int} {wy : Str} {ps ps' : List Pr} (gd : ∀ q ∈ ps,Gd q) (im : Im true (Tn n m) ps ps') (h : walkB n m wy ps = true) : walkB n m wy ps' = true := by
  rw [walk_ch] at h ⊢
  refine h.rev im (fun q q' mq f hi => ?_) (fun f l f' l' mf ml e1 e2 hE => ?_) (fun u v u' v' mu mv e1 e2 hS => ?_)
  · obtain ⟨⟨f1,f2⟩,f3,f4⟩ := f
    have g := gd q mq
    have := g.nx
    have := g.ny
    rw [in_iff,f1,f2,f3,f4]
    omega
  · obtain ⟨⟨f1,f2⟩,f3,f4⟩ := e1
    obtain ⟨⟨g1,g2⟩,g3,g4⟩ := e2
    rw [ends_iff] at hE ⊢
    obtain ⟨⟨⟨a1,a2⟩,a3,a4⟩,k⟩ := hE
    rw [f1,f2,g1,g2,a1,a2,a3,a4]
    refine ⟨⟨⟨by omega,rfl⟩,by omega,rfl⟩,fun z => ?_⟩
    obtain ⟨⟨b1,b2⟩,b3,b4⟩ := k z
    rw [f3,f4,g3,g4,b1,b2,b3,b4]
    exact ⟨⟨by omega,rfl⟩,by omega,rfl⟩
  · obtain ⟨⟨f1,f2⟩,f3,f4⟩ := e1
    obtain ⟨⟨g1,g2⟩,g3,g4⟩ := e2
    rw [step_iff] at hS ⊢
    rw [f1,f2,f3,f4,g1,g2,g3,g4]
    exact ⟨go_turn (gd u mu).lx.pos (gd v mv).lx.pos hS.1,go_turn (gd u mu).ly.pos (gd v mv).ly.pos hS.2⟩
theorem walk_sw {n m : Int} {wy : Str} {ps ps' : List Pr} (np : ¬ wy = wPart) (im : Im false Sw ps ps') (h : walkB n m wy ps = true) : walkB m n wy ps' = true := by
  rw [walk_ch] at h ⊢
  refine h.fwd im (fun q q' mq f hi => ?_) (fun f l f' l' mf ml e1 e2 hE => ?_) (fun u v u' v' mu mv e1 e2 hS => ?_)
  · obtain ⟨⟨f1,f2⟩,f3,f4⟩ := f
    rw [in_iff] at hi ⊢
    rw [f1,f2,f3,f4]
    exact ⟨hi.2,hi.1⟩
  · obtain ⟨⟨f1,f2⟩,f3,f4⟩ := e1
    obtain ⟨⟨g1,g2⟩,g3,g4⟩ := e2
    rw [ends_iff] at hE ⊢
    rw [f1,f2,f3,f4,g1,g2,g3,g4]
    exact ⟨hE.2 np,fun _ => hE.1⟩
  · obtain ⟨⟨f1,f2⟩,f3,f4⟩ := e1
    obtain ⟨⟨g1,g2⟩,g3,g4⟩ := e2
    rw [step_iff] at hS ⊢
    rw [f1,f2,f3,f4,g1,g2,g3,g4]
    exact ⟨hS.2,hS.1⟩
theorem walk_fu {n m : Int} {wy : Str} {ps qs : List Pr} {f f' : Pr} (gd : ∀ q ∈ ps,Gd q) (h0 : 0 ≤ n) (hop : wy = wHops → f.d = 1) (e0 : ps[0]? = some f) (im : Im false Fu ps qs) (ef : (f'.a = f.a ∧ f'.b = f.b) ∧ f'.c = f.c ∧ f'.d = f.d) (h : walkB n m wy ps = true) : walkB (n + 1) m wy (f' :: qs) = true := by
  rw [walk_ch] at h ⊢
  obtain ⟨⟨z1,z2⟩,z3,z4⟩ := ef
  have mf := List.mem_of_getElem? e0
  have g := gd f mf
  have hi := in_iff.mp (h.i f mf)
  obtain ⟨l,el⟩ : ∃ l,ps[ps.length - 1]? = some l := ⟨_,List.getElem?_eq_getElem (by have := h.ne; omega)⟩
  have hE := ends_iff.mp (h.e f l e0 el)
  have fa : f.a = 0 := hE.1.1.1
  have fb : f.b = 1 := hE.1.1.2
  refine (h.fwd (I' := fun q => inB (n + 1) m q = true) (E' := fun a b => (b.a = n + 1 ∧ b.b = 1) ∧ (¬ wy = wPart → (a.c = 0 ∧ a.d = 1) ∧ b.c = m ∧ b.d = 1)) (S' := fun u v => stepB wy u v = true) im (fun q q' mq f hi => ?_) (fun f l f' l' mf ml e1 e2 hE => ?_) (fun u v u' v' mu mv e1 e2 hS => ?_)).cons ?_ (fun g' hg => ?_) (fun g' l' hg hl k => ?_)
  · obtain ⟨⟨f1,f2⟩,f3,f4⟩ := f
    rw [in_iff] at hi ⊢
    rw [f1,f2,f3,f4,show (n + 1) * q.b = n * q.b + q.b by grind]
    omega
  · obtain ⟨⟨f1,f2⟩,f3,f4⟩ := e1
    obtain ⟨⟨g1,g2⟩,g3,g4⟩ := e2
    rw [ends_iff] at hE
    obtain ⟨⟨_,a3,a4⟩,k⟩ := hE
    rw [f3,f4,g1,g2,g3,g4,a3,a4]
    exact ⟨⟨rfl,rfl⟩,k⟩
  · obtain ⟨⟨f1,f2⟩,f3,f4⟩ := e1
    obtain ⟨⟨g1,g2⟩,g3,g4⟩ := e2
    rw [step_iff] at hS ⊢
    rw [f1,f2,f3,f4,g1,g2,g3,g4]
    exact ⟨go_on1 (gd u mu).lx.pos (gd v mv).lx.pos hS.1,hS.2⟩
  · rw [in_iff,z1,z2,z3,z4,fa,fb]
    exact ⟨by omega,hi.2⟩
  · obtain ⟨q,hq,⟨f1,f2⟩,f3,f4⟩ := im.at_ 0 g' hg
    rw [if_neg (by decide),e0] at hq
    cases hq
    rw [step_iff,z1,z2,z3,z4,f1,f2,f3,f4,fa,fb]
    refine ⟨?_,go_self g.ly.pos hop⟩
    rw [go_iff]
    have s : shareB 0 1 (0 + 1) 1 = true := by decide
    by_cases h1 : wy = wHops
    · exact .inl ⟨h1,rfl,rfl,by omega⟩
    · by_cases h2 : wy = wFree
      · exact .inr (.inl ⟨h1,h2,s⟩)
      · exact .inr (.inr ⟨h1,h2,by omega,s⟩)
  · obtain ⟨q,hq,⟨f1,f2⟩,f3,f4⟩ := im.at_ 0 g' hg
    rw [if_neg (by decide),e0] at hq
    cases hq
    rw [ends_iff,z1,z2,z3,z4]
    obtain ⟨k1,k2⟩ := k
    rw [f3,f4] at k2
    exact ⟨⟨⟨fa,fb⟩,k1⟩,k2⟩
theorem back_iff {u v : Pr} : backB u v = true ↔ v.a * u.b ≤ u.a * v.b ∧ u.c * v.d ≤ v.c * u.d := by
  unfold backB ltB
  simp [Int.not_lt]
theorem keepX_iff {u v : Pr} : keepX u v = true ↔ (u.a = v.a ∧ u.b = v.b) ∧ u.b = 1 ∧ shareB u.c u.d v.c v.d = true := by
  unfold keepX
  simp
theorem keepY_iff {u v : Pr} : keepY u v = true ↔ (u.c = v.c ∧ u.d = v.d) ∧ u.d = 1 ∧ shareB u.a u.b v.a v.b = true := by
  unfold keepY
  simp
theorem slide_iff {u v : Pr} : slideB u v = true ↔ ((u.a = v.a ∧ u.b = v.b) ∧ u.b = 1 ∧ shareB u.c u.d v.c v.d = true) ∨ ((u.c = v.c ∧ u.d = v.d) ∧ u.d = 1 ∧ shareB u.a u.b v.a v.b = true) := by
  unfold slideB
  rw [Bool.or_eq_true,keepX_iff,keepY_iff]
theorem aside_iff {u v : Pr} : asideB u v = true ↔ (v.a - u.a ≤ 0 ∧ u.c - v.c ≤ 1) ∨ (v.a - u.a ≤ 1 ∧ u.c - v.c ≤ 0) := by
  unfold asideB
  simp
theorem may_iff {wy : Str} {u v : Pr} : mayB wy u v = true ↔ (wy = wHops ∧ asideB u v = true) ∨ (¬ wy = wHops ∧ slideB u v = true) ∨ (¬ wy = wHops ∧ ¬ wy = wFree ∧ backB u v = true) := by
  unfold mayB
  by_cases h1 : wy = wHops
  · rw [if_pos h1]
    exact ⟨fun h => .inl ⟨h1,h⟩,fun h => by
      rcases h with ⟨_,h⟩ | ⟨z,_⟩ | ⟨z,_⟩
      · exact h
      · exact absurd h1 z
      · exact absurd h1 z⟩
  · rw [if_neg h1]
    by_cases h2 : wy = wFree
    · rw [if_pos h2]
      exact ⟨fun h => .inr (.inl ⟨h1,h⟩),fun h => by
        rcases h with ⟨z,_⟩ | ⟨_,h⟩ | ⟨_,z,_⟩
        · exact absurd z h1
        · exact h
        · exact absurd h2 z⟩
    · rw [if_neg h2,Bool.or_eq_true]
      exact ⟨fun h => by
        rcases h with h | h
        · exact .inr (.inr ⟨h1,h2,h⟩)
        · exact .inr (.inl ⟨h1,h⟩),fun h => by
        rcases h with ⟨z,_⟩ | ⟨_,h⟩ | ⟨_,_,h⟩
        · exact absurd z h1
        · exact .inr h
        · exact .inl h⟩
theorem fends_iff {n m : Int} {wy : Str} {f l : Pr} : fendsB n m wy f l = true ↔ ((f.c = m ∧ f.d = 1) ∨ (¬ wy = wPart ∧ f.a = 0 ∧ f.b = 1)) ∧ ((l.c = 0 ∧ l.d = 1) ∨ (¬ wy = wPart ∧ l.a = n ∧ l.b = 1)) := by
  unfold fendsB isP
  by_cases h : wy = wPart
  · simp [h]
  · simp [h]
theorem whole_iff {q : Pr} : wholeB q = true ↔ q.b = 1 ∧ q.d = 1 := by
  unfold wholeB
  simp
theorem back_turn {n m : Int} {u v u' v' : Pr} (e1 : Tn n m u u') (e2 : Tn n m v v') : backB v' u' = backB u v := by
  obtain ⟨⟨f1,f2⟩,f3,f4⟩ := e1
  obtain ⟨⟨g1,g2⟩,g3,g4⟩ := e2
  rw [Bool.eq_iff_iff,back_iff,back_iff,f1,f2,f3,f4,g1,g2,g3,g4]
  rw [show (n * u.b - u.a) * v.b = n * u.b * v.b - u.a * v.b by grind,show (n * v.b - v.a) * u.b = n * u.b * v.b - v.a * u.b by grind,show (m * v.d - v.c) * u.d = m * u.d * v.d - v.c * u.d by grind,show (m * u.d - u.c) * v.d = m * u.d * v.d - u.c * v.d by grind]
  omega
theorem back_sw {u v u' v' : Pr} (e1 : Sw u u') (e2 : Sw v v') : backB v' u' = backB u v := by
  obtain ⟨⟨f1,f2⟩,f3,f4⟩ := e1
  obtain ⟨⟨g1,g2⟩,g3,g4⟩ := e2
  rw [Bool.eq_iff_iff,back_iff,back_iff,f1,f2,f3,f4,g1,g2,g3,g4]
  exact And.comm
theorem ms_turn {n m : Int} {wy : Str} {u v u' v' : Pr} (e1 : Tn n m u u') (e2 : Tn n m v v') : msB wy v' u' = msB wy u v := by
  unfold msB
  rw [back_turn e1 e2]
theorem ms_sw {wy : Str} {u v u' v' : Pr} (e1 : Sw u u') (e2 : Sw v v') : msB wy v' u' = msB wy u v := by
  unfold msB
  rw [back_sw e1 e2]
theorem may_turn {n m : Int} {wy : Str} {u v u' v' : Pr} (gu : Gd u) (gv : Gd v) (hop : wy = wHops → (u.b = 1 ∧ u.d = 1) ∧ v.b = 1 ∧ v.d = 1) (e1 : Tn n m u u') (e2 : Tn n m v v') (h : mayB wy u v = true) : mayB wy v' u' = true := by
  rw [may_iff] at h ⊢
  rw [back_turn e1 e2]
  rcases h with ⟨h1,h⟩ | ⟨h1,h⟩ | h
  · obtain ⟨⟨a1,a2⟩,a3,a4⟩ := hop h1
    obtain ⟨⟨f1,f2⟩,f3,f4⟩ := e1
    obtain ⟨⟨g1,g2⟩,g3,g4⟩ := e2
    refine .inl ⟨h1,?_⟩
    rw [aside_iff] at h ⊢
    rw [f1,f3,g1,g3,a1,a2,a3,a4]
    omega
  · obtain ⟨⟨f1,f2⟩,f3,f4⟩ := e1
    obtain ⟨⟨g1,g2⟩,g3,g4⟩ := e2
    refine .inr (.inl ⟨h1,?_⟩)
    rw [slide_iff] at h ⊢
    rw [f1,f2,f3,f4,g1,g2,g3,g4]
    rcases h with ⟨⟨a1,a2⟩,a3,a4⟩ | ⟨⟨a1,a2⟩,a3,a4⟩
    · exact .inl ⟨⟨by rw [a1,a2],a2.symm⟩,by omega,share_turn gu.ly.pos gv.ly.pos a4⟩
    · exact .inr ⟨⟨by rw [a1,a2],a2.symm⟩,by omega,share_turn gu.lx.pos gv.lx.pos a4⟩
  · exact .inr (.inr h)
theorem may_sw {wy : Str} {u v u' v' : Pr} (gu : Gd u) (gv : Gd v) (e1 : Sw u u') (e2 : Sw v v') (h : mayB wy u v = true) : mayB wy v' u' = true := by
  rw [may_iff] at h ⊢
  rw [back_sw e1 e2]
  obtain ⟨⟨f1,f2⟩,f3,f4⟩ := e1
  obtain ⟨⟨g1,g2⟩,g3,g4⟩ := e2
  rcases h with ⟨h1,h⟩ | ⟨h1,h⟩ | h
  · refine .inl ⟨h1,?_⟩
    rw [aside_iff] at h ⊢
    rw [f1,f3,g1,g3]
    omega
  · refine .inr (.inl ⟨h1,?_⟩)
    rw [slide_iff] at h ⊢
    rw [f1,f2,f3,f4,g1,g2,g3,g4]
    rcases h with ⟨⟨a1,a2⟩,a3,a4⟩ | ⟨⟨a1,a2⟩,a3,a4⟩
    · exact .inr ⟨⟨a1.symm,a2.symm⟩,by omega,share_sw gu.ly.pos gv.ly.pos a4⟩
    · exact .inl ⟨⟨a1.symm,a2.symm⟩,by omega,share_sw gu.lx.pos gv.lx.pos a4⟩
  · exact .inr (.inr h)
theorem fence_turn {n m : Int} {wy : Str} {ps ps' : List Pr} (gd : ∀ q ∈ ps,Gd q) (im : Im true (Tn n m) ps ps') (h : fenceB n m wy ps = true) : fenceB n m wy ps' = true := by
  rw [fence_ch] at h ⊢
  refine h.rev im (fun q q' mq f hi => ?_) (fun f l f' l' mf ml e1 e2 hE => ?_) (fun u v u' v' mu mv e1 e2 hS => ?_)
  · obtain ⟨⟨f1,f2⟩,f3,f4⟩ := f
    have g := gd q mq
    have := g.nx
    have := g.ny
    refine ⟨by rw [in_iff,f1,f2,f3,f4]; omega,fun z => ?_⟩
    rw [whole_iff,f2,f4]
    exact whole_iff.mp (hi.2 z)
  · obtain ⟨⟨f1,f2⟩,f3,f4⟩ := e1
    obtain ⟨⟨g1,g2⟩,g3,g4⟩ := e2
    rw [fends_iff] at hE ⊢
    rw [f1,f2,f3,f4,g1,g2,g3,g4]
    obtain ⟨k1,k2⟩ := hE
    refine ⟨?_,?_⟩
    · rcases k2 with ⟨a1,a2⟩ | ⟨a0,a1,a2⟩
      · exact .inl ⟨by rw [a1,a2]; omega,a2⟩
      · exact .inr ⟨a0,by rw [a1,a2]; omega,a2⟩
    · rcases k1 with ⟨a1,a2⟩ | ⟨a0,a1,a2⟩
      · exact .inl ⟨by rw [a1,a2]; omega,a2⟩
      · exact .inr ⟨a0,by rw [a1,a2]; omega,a2⟩
  · exact may_turn (gd u mu) (gd v mv) (fun z => ⟨whole_iff.mp ((h.i u mu).2 z),whole_iff.mp ((h.i v mv).2 z)⟩) e1 e2 hS
theorem fence_sw {n m : Int} {wy : Str} {ps ps' : List Pr} (np : ¬ wy = wPart) (gd : ∀ q ∈ ps,Gd q) (im : Im true Sw ps ps') (h : fenceB n m wy ps = true) : fenceB m n wy ps' = true := by
  rw [fence_ch] at h ⊢
  refine h.rev im (fun q q' mq f hi => ?_) (fun f l f' l' mf ml e1 e2 hE => ?_) (fun u v u' v' mu mv e1 e2 hS => ?_)
  · obtain ⟨⟨f1,f2⟩,f3,f4⟩ := f
    obtain ⟨h1,h2⟩ := hi
    rw [in_iff] at h1 ⊢
    rw [whole_iff] at h2 ⊢
    rw [f1,f2,f3,f4]
    exact ⟨⟨h1.2,h1.1⟩,fun z => ⟨(h2 z).2,(h2 z).1⟩⟩
  · obtain ⟨⟨f1,f2⟩,f3,f4⟩ := e1
    obtain ⟨⟨g1,g2⟩,g3,g4⟩ := e2
    rw [fends_iff] at hE ⊢
    rw [f1,f2,f3,f4,g1,g2,g3,g4]
    obtain ⟨k1,k2⟩ := hE
    refine ⟨?_,?_⟩
    · rcases k2 with k | ⟨_,k⟩
      · exact .inr ⟨np,k⟩
      · exact .inl k
    · rcases k1 with k | ⟨_,k⟩
      · exact .inr ⟨np,k⟩
      · exact .inl k
  · exact may_sw (gd u mu) (gd v mv) e1 e2 hS
theorem max_map {qs rs qs' rs' : Crn} {ps ps' : List Pr} {s w : Int} (h : MaxSq qs' rs' ps' s w)
    (h1 : ∀ q ∈ ps,∃ q' ∈ ps',sqF qs' q'.a q'.b rs' q'.c q'.d = sqF qs q.a q.b rs q.c q.d ∧ sqD q'.b q'.d = sqD q.b q.d)
    (h2 : ∀ q' ∈ ps',∃ q ∈ ps,sqF qs' q'.a q'.b rs' q'.c q'.d = sqF qs q.a q.b rs q.c q.d ∧ sqD q'.b q'.d = sqD q.b q.d) : MaxSq qs rs ps s w := by
  refine ⟨h.low,fun q hq => ?_,?_⟩
  · obtain ⟨q',mq,e1,e2⟩ := h1 q hq
    rw [← e1,← e2]
    exact h.most q' mq
  · obtain ⟨q',mq,e⟩ := h.att
    obtain ⟨q,hq,e1,e2⟩ := h2 q' mq
    rw [e1,e2] at e
    exact ⟨q,hq,e⟩
theorem min_map {qs rs qs' rs' : Crn} {S S' : Int → Int → Int → Int → Prop} {s w : Int} (h : MinSq qs' rs' S' s w)
    (h1 : ∀ a b c d,Low a b → Low c d → S a b c d → ∃ a' b' c' d',Low a' b' ∧ Low c' d' ∧ S' a' b' c' d' ∧ sqF qs' a' b' rs' c' d' = sqF qs a b rs c d ∧ sqD b' d' = sqD b d)
    (h2 : ∀ a b c d,Low a b → Low c d → S' a b c d → ∃ a' b' c' d',Low a' b' ∧ Low c' d' ∧ S a' b' c' d' ∧ sqF qs' a b rs' c d = sqF qs a' b' rs c' d' ∧ sqD b d = sqD b' d') : MinSq qs rs S s w := by
  refine ⟨h.low,fun a b c d l1 l2 hs => ?_,?_⟩
  · obtain ⟨a',b',c',d',k1,k2,hs',e1,e2⟩ := h1 a b c d l1 l2 hs
    rw [← e1,← e2]
    exact h.least a' b' c' d' k1 k2 hs'
  · obtain ⟨a,b,c,d,l1,l2,hs,e⟩ := h.att
    obtain ⟨a',b',c',d',k1,k2,hs',e1,e2⟩ := h2 a b c d l1 l2 hs
    rw [e1,e2] at e
    exact ⟨a',b',c',d',k1,k2,hs',e⟩
theorem low_turn {a b n : Int} (h : Low a b) : Low (n * b - a) b := by
  refine ⟨h.pos,?_⟩
  have e := h.one
  rw [show n * b - a = n * b + -a by omega]
  have l : Low (-a) b := ⟨h.pos,by rw [Int.neg_gcd]; exact e⟩
  exact (low_add l).one
theorem sq_turn {qs rs : Crn} {a b c d : Int} (hb : 0 < b) (hd : 0 < d) (g1 : 1 ≤ qs.length) (g2 : 1 ≤ rs.length) (a0 : 0 ≤ a) (a1 : a ≤ lst_ qs * b) (c0 : 0 ≤ c) (c1 : c ≤ lst_ rs * d) : sqF qs.reverse (lst_ qs * b - a) b rs.reverse (lst_ rs * d - c) d = sqF qs a b rs c d := by
  obtain ⟨e1,e2⟩ := pt_rev hb g1 a0 a1
  obtain ⟨e3,e4⟩ := pt_rev hd g2 c0 c1
  unfold sqF
  rw [e1,e2,e3,e4]
theorem max_turn {qs rs : Crn} {ps ps' : List Pr} {s w : Int} (g1 : 1 ≤ qs.length) (g2 : 1 ≤ rs.length) (gd : ∀ q ∈ ps,Gd q ∧ inB (lst_ qs) (lst_ rs) q = true) (im : Im true (Tn (lst_ qs) (lst_ rs)) ps ps') (h : MaxSq qs.reverse rs.reverse ps' s w) : MaxSq qs rs ps s w := by
  have key : ∀ q q',q ∈ ps → Tn (lst_ qs) (lst_ rs) q q' → sqF qs.reverse q'.a q'.b rs.reverse q'.c q'.d = sqF qs q.a q.b rs q.c q.d ∧ sqD q'.b q'.d = sqD q.b q.d := fun q q' mq f => by
    obtain ⟨⟨f1,f2⟩,f3,f4⟩ := f
    obtain ⟨g,hi⟩ := gd q mq
    rw [in_iff] at hi
    rw [f1,f2,f3,f4]
    exact ⟨sq_turn g.lx.pos g.ly.pos g1 g2 g.nx hi.1 g.ny hi.2,rfl⟩
  refine max_map h (fun q hq => ?_) (fun q' hq => ?_)
  · obtain ⟨q',mq,f⟩ := im.mem' hq
    exact ⟨q',mq,key q q' hq f⟩
  · obtain ⟨q,mq,f⟩ := im.mem hq
    exact ⟨q,mq,key q q' mq f⟩
theorem max_sw {qs rs : Crn} {ps ps' : List Pr} {s w : Int} (im : Im false Sw ps ps') (h : MaxSq rs qs ps' s w) : MaxSq qs rs ps s w := by
  have key : ∀ q q',Sw q q' → sqF rs q'.a q'.b qs q'.c q'.d = sqF qs q.a q.b rs q.c q.d ∧ sqD q'.b q'.d = sqD q.b q.d := fun q q' f => by
    obtain ⟨⟨f1,f2⟩,f3,f4⟩ := f
    rw [f1,f2,f3,f4]
    exact ⟨sqF_symm _ _ _ _ _ _,sqD_symm _ _⟩
  refine max_map h (fun q hq => ?_) (fun q' hq => ?_)
  · obtain ⟨q',mq,f⟩ := im.mem' hq
    exact ⟨q',mq,key q q' f⟩
  · obtain ⟨q,mq,f⟩ := im.mem hq
    exact ⟨q,mq,key q q' f⟩
theorem max_fu {qs rs : Crn} {ps ps' : List Pr} {f f' : Pr} {s w : Int} (g1 : 1 ≤ qs.length) (gd : ∀ q ∈ ps,Gd q ∧ inB (lst_ qs) (lst_ rs) q = true) (mf : f ∈ ps) (fa : f.a = 0 ∧ f.b = 1) (ef : (f'.a = f.a ∧ f'.b = f.b) ∧ f'.c = f.c ∧ f'.d = f.d) (im : Im false Fu ps ps') (h : MaxSq (qs.take 1 ++ qs) rs (f' :: ps') s w) : MaxSq qs rs ps s w := by
  have key : ∀ q q',q ∈ ps → Fu q q' → sqF (qs.take 1 ++ qs) q'.a q'.b rs q'.c q'.d = sqF qs q.a q.b rs q.c q.d ∧ sqD q'.b q'.d = sqD q.b q.d := fun q q' mq f => by
    obtain ⟨⟨f1,f2⟩,f3,f4⟩ := f
    obtain ⟨g,hi⟩ := gd q mq
    rw [in_iff] at hi
    obtain ⟨e1,e2⟩ := pt_dbl g.lx.pos g1 g.nx hi.1
    rw [f1,f2,f3,f4]
    unfold sqF
    rw [e1,e2]
    exact ⟨rfl,rfl⟩
  refine max_map h (fun q hq => ?_) (fun q' hq => ?_)
  · obtain ⟨q',mq,f⟩ := im.mem' hq
    exact ⟨q',List.mem_cons_of_mem _ mq,key q q' hq f⟩
  · rcases List.mem_cons.mp hq with rfl | hq
    · obtain ⟨⟨z1,z2⟩,z3,z4⟩ := ef
      obtain ⟨e1,e2⟩ := pt_dbl0 g1
      refine ⟨f,mf,?_⟩
      rw [z1,z2,z3,z4,fa.1,fa.2]
      unfold sqF
      rw [e1,e2]
      exact ⟨rfl,rfl⟩
    · obtain ⟨q,mq,f⟩ := im.mem hq
      exact ⟨q,mq,key q q' mq f⟩
theorem btw_turn {p q r s c d n : Int} : btw (n * s - r) s (n * q - p) q (n * d - c) d ↔ btw p q r s c d := by
  unfold btw
  rw [show (n * s - r) * d = n * s * d - r * d by grind,show (n * d - c) * s = n * s * d - c * s by grind,show (n * d - c) * q = n * q * d - c * q by grind,show (n * q - p) * d = n * q * d - p * d by grind]
  omega
theorem btw_in {p q r s c d n : Int} (hq : 0 < q) (hs : 0 < s) (hd : 0 < d) (p0 : 0 ≤ p) (p1 : p ≤ n * q) (r0 : 0 ≤ r) (r1 : r ≤ n * s) (h : btw p q r s c d) : 0 ≤ c ∧ c ≤ n * d := by
  have go : ∀ {x y z v : Int},0 < y → 0 < v → 0 ≤ x → z ≤ n * v → x * d ≤ c * y → c * v ≤ z * d → 0 ≤ c ∧ c ≤ n * d := fun {x y z v} hy hv h0 h1 h2 h3 => by
    constructor
    · refine Int.le_of_mul_le_mul_right (a := y) ?_ hy
      have := Int.mul_nonneg h0 (show 0 ≤ d by omega)
      rw [Int.zero_mul]
      omega
    · refine Int.le_of_mul_le_mul_right (a := v) ?_ hv
      have := Int.mul_le_mul_of_nonneg_right h1 (show 0 ≤ d by omega)
      rw [show n * d * v = n * v * d by grind]
      omega
  rcases h with ⟨h1,h2⟩ | ⟨h1,h2⟩
  · exact go hq hs p0 r1 h1 h2
  · exact go hs hq r0 p1 h1 h2
theorem fs_in {n m : Int} {wy : Str} {ps : List Pr} {a b c d : Int} (gd : ∀ q ∈ ps,Gd q ∧ inB n m q = true) (l1 : Low a b) (l2 : Low c d) (h : FS wy ps a b c d) : (0 ≤ a ∧ a ≤ n * b) ∧ 0 ≤ c ∧ c ≤ m * d := by
  rcases h with ⟨q,mq,⟨rfl,rfl⟩,rfl,rfl⟩ | ⟨j,u,v,e1,e2,_,b1,b2⟩
  · obtain ⟨g,hi⟩ := gd q mq
    rw [in_iff] at hi
    exact ⟨⟨g.nx,hi.1⟩,g.ny,hi.2⟩
  · obtain ⟨gu,iu⟩ := gd u (List.mem_of_getElem? e1)
    obtain ⟨gv,iv⟩ := gd v (List.mem_of_getElem? e2)
    rw [in_iff] at iu iv
    exact ⟨btw_in gu.lx.pos gv.lx.pos l1.pos gu.nx iu.1 gv.nx iv.1 b1,btw_in gu.ly.pos gv.ly.pos l2.pos gu.ny iu.2 gv.ny iv.2 b2⟩
theorem fs_turn {n m : Int} {wy : Str} {ps ps' : List Pr} {a b c d : Int} (im : Im true (Tn n m) ps ps') (h : FS wy ps a b c d) : FS wy ps' (n * b - a) b (m * d - c) d := by
  rcases h with ⟨q,mq,⟨rfl,rfl⟩,rfl,rfl⟩ | ⟨j,u,v,e1,e2,hm,b1,b2⟩
  · obtain ⟨q',mq',⟨f1,f2⟩,f3,f4⟩ := im.mem' mq
    exact .inl ⟨q',mq',⟨f1.symm,f2.symm⟩,f3.symm,f4.symm⟩
  · obtain ⟨u',a1,t1⟩ := im.to _ _ e1
    obtain ⟨v',a2,t2⟩ := im.to _ _ e2
    have hj := (List.getElem?_eq_some_iff.mp e2).1
    rw [if_pos rfl] at a1 a2
    refine .inr ⟨ps.length - 1 - (j + 1),v',u',a2,by rw [← a1]; congr 1; omega,by rw [ms_turn t1 t2]; exact hm,?_⟩
    obtain ⟨⟨f1,f2⟩,f3,f4⟩ := t1
    obtain ⟨⟨g1,g2⟩,g3,g4⟩ := t2
    unfold Box
    rw [f1,f2,f3,f4,g1,g2,g3,g4]
    exact ⟨btw_turn.mpr b1,btw_turn.mpr b2⟩
theorem fs_sw {wy : Str} {ps ps' : List Pr} {a b c d : Int} (im : Im true Sw ps ps') (h : FS wy ps a b c d) : FS wy ps' c d a b := by
  rcases h with ⟨q,mq,⟨rfl,rfl⟩,rfl,rfl⟩ | ⟨j,u,v,e1,e2,hm,b1,b2⟩
  · obtain ⟨q',mq',⟨f1,f2⟩,f3,f4⟩ := im.mem' mq
    exact .inl ⟨q',mq',⟨f1.symm,f2.symm⟩,f3.symm,f4.symm⟩
  · obtain ⟨u',a1,t1⟩ := im.to _ _ e1
    obtain ⟨v',a2,t2⟩ := im.to _ _ e2
    have hj := (List.getElem?_eq_some_iff.mp e2).1
    rw [if_pos rfl] at a1 a2
    refine .inr ⟨ps.length - 1 - (j + 1),v',u',a2,by rw [← a1]; congr 1; omega,by rw [ms_sw t1 t2]; exact hm,?_⟩
    obtain ⟨⟨f1,f2⟩,f3,f4⟩ := t1
    obtain ⟨⟨g1,g2⟩,g3,g4⟩ := t2
    unfold Box
    rw [f1,f2,f3,f4,g1,g2,g3,g4]
    exact ⟨btw_comm.mp b2,btw_comm.mp b1⟩
theorem Im.back {φ ψ : Pr → Pr → Prop} {ps ps' : List Pr} (h : Im true φ ps ps') (hf : ∀ q q',φ q q' → ψ q' q) : Im true ψ ps' ps := by
  refine ⟨h.len.symm,fun j q hq => ?_⟩
  obtain ⟨q',h1,h2⟩ := h.to j q hq
  rw [if_pos rfl] at h1 ⊢
  rw [h.len]
  exact ⟨q',h1,hf q q' h2⟩
theorem tn_back {n m : Int} {q q' : Pr} (h : Tn n m q q') : Tn n m q' q := by
  obtain ⟨⟨f1,f2⟩,f3,f4⟩ := h
  exact ⟨⟨by rw [f1,f2]; omega,f2.symm⟩,by rw [f3,f4]; omega,f4.symm⟩
theorem sw_back {q q' : Pr} (h : Sw q q') : Sw q' q := by
  obtain ⟨⟨f1,f2⟩,f3,f4⟩ := h
  exact ⟨⟨f3.symm,f4.symm⟩,f1.symm,f2.symm⟩
theorem min_turn {qs rs : Crn} {wy : Str} {ps ps' : List Pr} {s w : Int} (g1 : 1 ≤ qs.length) (g2 : 1 ≤ rs.length) (gd : ∀ q ∈ ps,Gd q ∧ inB (lst_ qs) (lst_ rs) q = true) (im : Im true (Tn (lst_ qs) (lst_ rs)) ps ps') (h : MinSq qs.reverse rs.reverse (FS wy ps') s w) : MinSq qs rs (FS wy ps) s w := by
  refine min_map h (fun a b c d l1 l2 hs => ?_) (fun a b c d l1 l2 hs => ?_)
  · obtain ⟨⟨a0,a1⟩,c0,c1⟩ := fs_in gd l1 l2 hs
    exact ⟨_,_,_,_,low_turn l1,low_turn l2,fs_turn im hs,sq_turn l1.pos l2.pos g1 g2 a0 a1 c0 c1,rfl⟩
  · have hs' := fs_turn (im.back fun _ _ => tn_back) hs
    obtain ⟨⟨a0,a1⟩,c0,c1⟩ := fs_in gd (low_turn l1) (low_turn l2) hs'
    refine ⟨_,_,_,_,low_turn l1,low_turn l2,hs',?_,rfl⟩
    rw [← sq_turn l1.pos l2.pos g1 g2 a0 a1 c0 c1,show lst_ qs * b - (lst_ qs * b - a) = a by omega,show lst_ rs * d - (lst_ rs * d - c) = c by omega]
theorem min_sw {qs rs : Crn} {wy : Str} {ps ps' : List Pr} {s w : Int} (im : Im true Sw ps ps') (h : MinSq rs qs (FS wy ps') s w) : MinSq qs rs (FS wy ps) s w := by
  refine min_map h (fun a b c d l1 l2 hs => ?_) (fun a b c d l1 l2 hs => ?_)
  · exact ⟨_,_,_,_,l2,l1,fs_sw im hs,sqF_symm _ _ _ _ _ _,sqD_symm _ _⟩
  · exact ⟨_,_,_,_,l2,l1,fs_sw (im.back fun _ _ => sw_back) hs,sqF_symm _ _ _ _ _ _,sqD_symm _ _⟩
theorem comp_revG {K : PySem.W.Frag} {a : Addr} {xs : List V} {fv : List (Str × Nat)} {te : TE} {σ : St} {H1 : Hp} {Q : VK} {g : TG} {k : Nat} (q1 : SqL K H1 a xs) (hlen : xs.length < 1000) (R : Nat → V → Hp → Prop) (hR : ∀ i v H H',SameT H H' → R i v H → R i v H')
    (hs : ∀ i x H2 (τ : St) (Kc : VK),i < xs.length → xs[xs.length - 1 - i]? = some x → Same H1 H2 → τ.length = k → (∀ y H4,Same H2 H4 → R i y H4 → Kc y H4) → g x (τ ++ fvs fv σ) H2 fun σ2 H4 => (∃ τ' : St,τ'.length = k ∧ σ2 = τ' ++ fvs fv σ) ∧ te σ2 H4 Kc)
    (hd : ∀ l zs H',H1 l = none → Same H1 H' → H' l = some (.lst zs) → zs.length = xs.length → (∀ i y,zs[i]? = some y → R i y H') → Q (.ref l) H') :
    CompAtG (ItR K a xs.length) k fv g tYes te σ H1 Q := by
  refine compG_R (n := xs.length) hlen R hR (fun H2 s2 => rfl) (fun i H2 hi s2 => ⟨xs,xs[xs.length - 1 - i],s2.seq q1,rfl,hi,List.getElem?_eq_getElem (by omega)⟩) ?_ hd
  intro i x H2 H3 τ Kc hi s2 y hτ kk
  obtain ⟨rfl,e⟩ := y
  exact hs i x _ τ Kc hi (e xs (s2.seq q1)) s2 hτ kk
theorem prs_of {H : Hp} {l : Addr} {zs : List V} {R : Nat → Pr → Prop} (e : H l = some (.lst zs)) (h : ∀ (i : Nat) y,zs[i]? = some y → ∃ q : Pr,y = .ref q.p ∧ PrAt H q ∧ R i q) : ∃ ps : List Pr,PairsAt H l ps ∧ ps.length = zs.length ∧ ∀ (i : Nat) q,ps[i]? = some q → R i q := by
  obtain ⟨ps,hl,hp⟩ := list_of (β := Pr) zs (fun i v q => v = .ref q.p ∧ PrAt H q ∧ R i q) h
  have hg : ∀ (i : Nat) q,ps[i]? = some q → ∃ v,zs[i]? = some v ∧ v = .ref q.p ∧ PrAt H q ∧ R i q := fun i q hq => by
    obtain ⟨y,hy⟩ := get_ex hl.symm hq
    exact ⟨y,hy,hp i y q hy hq⟩
  refine ⟨ps,⟨?_,fun q hq => ?_⟩,hl,fun i q hq => ?_⟩
  · rw [e]
    refine congrArg _ (congrArg _ (List.ext_getElem? fun i => ?_))
    unfold prs
    rw [List.getElem?_map]
    by_cases hi : i < zs.length
    · obtain ⟨v,hv,e1,_⟩ := hg i ps[i] (List.getElem?_eq_getElem (by omega))
      rw [hv,e1,List.getElem?_eq_getElem (show i < ps.length by omega)]
      rfl
    · rw [List.getElem?_eq_none (by omega),List.getElem?_eq_none (by omega)]
      rfl
  · obtain ⟨i,hi⟩ := List.mem_iff_getElem?.mp hq
    obtain ⟨_,_,_,h2,_⟩ := hg i q hi
    exact h2
  · obtain ⟨_,_,_,_,h3⟩ := hg i q hq
    exact h3
inductive spAcr (vs : List V) (H : Hp) (Q : VK) (x_3 : XK) : Prop
  | mk : ∀ (l : Addr) (ps : List Pr),(vs = [.ref l]) → (PairsAt H l ps) → (ps.length < 900) → (∀ (l' : Addr) (ps' : List Pr) (H' : Hp),Same H H' → PairsAt H' l' ps' → Im false Sw ps ps' → Q (.ref l') H') → spAcr vs H Q x_3
inductive spFrE (vs : List V) (H : Hp) (Q : VK) (x_3 : XK) : Prop
  | mk : ∀ (l : Addr) (ps : List Pr) (n m : Int),(vs = [.ref l,.int n,.int m]) → (PairsAt H l ps) → (ps.length < 900) → ((0 ≤ n ∧ n ≤ 100)) → ((0 ≤ m ∧ m ≤ 100)) → ((∀ q ∈ ps,inB n m q = true)) → (∀ (l' : Addr) (ps' : List Pr) (H' : Hp),Same H H' → PairsAt H' l' ps' → Im true (Tn n m) ps ps' → Q (.ref l') H') → spFrE vs H Q x_3
inductive spFur (vs : List V) (H : Hp) (Q : VK) (x_3 : XK) : Prop
  | mk : ∀ (l : Addr) (ps : List Pr) (n m : Int),(vs = [.ref l]) → (PairsAt H l ps) → ((1 ≤ ps.length ∧ ps.length < 800)) → (n ≤ 100) → ((∀ q ∈ ps,inB n m q = true)) → (∀ (l' : Addr) (f : Pr) (ps' : List Pr) (H' : Hp),Same H H' → ps[0]? = some f → PairsAt H' l' (f :: ps') → Im false Fu ps ps' → Q (.ref l') H') → spFur vs H Q x_3
theorem pl_bits {a b n : Int} (hb : 0 < b) (bb : bits b ≤ 60) (n0 : 0 ≤ n) (n1 : n ≤ 100) (a0 : 0 ≤ a) (a1 : a ≤ n * b) : bits a ≤ 70 := by
  have h2 : n * b ≤ 100 * b := Int.mul_le_mul_of_nonneg_right n1 (by omega)
  have h3 : bits (100 * b) ≤ 7 + 60 := bits_mul (by decide) bb
  exact bits_le (bits_range a0 (by omega) h3) (by decide)
theorem S_law_across : FnScope ["pairs"] ["pairs"] (defScope (top 95)) := ⟨rfl,rfl,rfl,by decide +kernel,rfl,by decide +kernel,by decide +kernel⟩
theorem fn_law_across (D_law_across : Df K mg "_law_across" (top 95)) (T : Txt mg) : Fn P w K mg base "_law_across" ["pairs"] 1 spAcr := by
  refine D_law_across.fn S_law_across (fun _ _ _ _ _ _ us hl => by obtain ⟨_,rfl⟩ := len1 hl; rfl) (fun vs H Q E h => ?_) (fun f cdv A outer s H vs Q E hr h => ?_)
  · obtain ⟨l,ps,rfl,_⟩ := h
    rfl
  · obtain ⟨l,ps,rfl,PP,hlen,k⟩ := h
    have CN : CompM (cxOf CX0 P w K mg base ["pairs"] "_law_across" (defScope (top 95)) f cdv A outer s H E).nox (lcA (top 95) 0) [] ["x","y"] [] :=
      ⟨by rfl,rfl,by decide +kernel,by decide +kernel,(fun x hx => by simp only [List.mem_cons,List.not_mem_nil,or_false] at hx; rcases hx with rfl | rfl <;> exact rfl),(fun p hp => nomatch hp),by rfl,by decide +kernel,(fun p hp => nomatch hp),⟨rfl,rfl⟩,rfl⟩
    refine ⟨_,(pss_one (ps_ret (pe_compG rfl CN (pi_list (pv 0)) (fun fp s₀ H₀ => (pg_tupK (K := K) (n := 2) rfl rfl (pgs_cons (pg_name (i := 0) CN.nd rfl (Or.inl rfl) (Or.inr rfl)) (pgs_cons (pg_name (i := 1) CN.nd rfl (Or.inl rfl) (Or.inr rfl)) pgs_nil)))) (fun fp s₀ H₀ => pts_nil) (fun fp s₀ H₀ => (pe_tupA (pa_cons (pv 1) (pa_cons (pv 0) pa_nil))))))),?_⟩
    refine ⟨_,rfl,l,rfl,⟨_,SqL.of PP.lst⟩,comp_listG (K := K) (k := 2) (SqL.of PP.lst) (by rw [prs_len]; omega) (fun i v H' => ∃ q : Pr,v = .ref q.p ∧ PrAt H' q ∧ ∃ u,ps[i]? = some u ∧ Sw u q) (fun i v H H' st ⟨q,e,a,b⟩ => ⟨q,e,a.t st,b⟩) ?_ ?_⟩
    · intro i x H2 τ Kc hx s2 hτ kk
      obtain ⟨τ0,τ1,rfl⟩ : ∃ τ0 τ1,τ = [τ0,τ1] := by
        match τ,hτ with
        | [a,b],_ => exact ⟨a,b,rfl⟩
      obtain ⟨q,hq,rfl⟩ := prs_get hx
      have pq := (PP.mono s2).pr q (List.mem_of_getElem? hq)
      refine ⟨q.p,_,rfl,SqT.of pq.p_,rfl,_,_,rfl,_,_,rfl,rfl,⟨[some (.ref q.x),some (.ref q.y)],rfl,rfl⟩,?_⟩
      refine ⟨_,rfl,_,rfl,sz (by simp),fun o H4 s4 f4 n4 => kk _ H4 s4 ⟨⟨o,q.y,q.x,q.c,q.d,q.a,q.b⟩,rfl,⟨f4,s4 _ _ pq.y_,s4 _ _ pq.x_,pq.ly,pq.lx,pq.ny,pq.nx,pq.bc,pq.bd,pq.ba,pq.bb⟩,q,hq,⟨rfl,rfl⟩,rfl,rfl⟩⟩
    · intro r zs H2 nr s2 f2 hl hr
      obtain ⟨ps',P2,l2,h2⟩ := prs_of (R := fun i q => ∃ u,ps[i]? = some u ∧ Sw u q) f2 hr
      rw [prs_len] at hl
      exact k r ps' H2 s2 P2 ⟨by omega,fun j q' hq => h2 j q' hq⟩
theorem S_law_from_end : FnScope ["pairs","n","m"] ["pairs","n","m"] (defScope (top 96)) := ⟨rfl,rfl,rfl,by decide +kernel,rfl,by decide +kernel,by decide +kernel⟩
theorem fn_law_from_end (D_law_from_end : Df K mg "_law_from_end" (top 96)) (T : Txt mg) : Fn P w K mg base "_law_from_end" ["pairs","n","m"] 1 spFrE := by
  refine D_law_from_end.fn S_law_from_end (fun _ _ _ _ _ _ us hl => by obtain ⟨_,_,_,rfl⟩ := len3 hl; rfl) (fun vs H Q E h => ?_) (fun f cdv A outer s H vs Q E hr h => ?_)
  · obtain ⟨l,ps,n,m,rfl,_⟩ := h
    rfl
  · obtain ⟨l,ps,n,m,rfl,PP,hlen,⟨n0,n1⟩,⟨m0,m1⟩,hin,k⟩ := h
    have CN : CompM (cxOf CX0 P w K mg base ["pairs","n","m"] "_law_from_end" (defScope (top 96)) f cdv A outer s H E).nox (lcA (top 96) 0) [("n",s.heap.objs.size + 1),("m",s.heap.objs.size + 2)] ["x","y"] [("n",1),("m",2)] :=
      ⟨by rfl,rfl,by decide +kernel,by decide +kernel,(fun x hx => by simp only [List.mem_cons,List.not_mem_nil,or_false] at hx; rcases hx with rfl | rfl <;> exact rfl),(fun p hp => by simp only [List.mem_cons,List.not_mem_nil,or_false] at hp; rcases hp with rfl | rfl <;> exact rfl),by rfl,by decide +kernel,(fun p hp => by simp only [List.mem_cons,List.not_mem_nil,or_false] at hp; rcases hp with rfl | rfl <;> exact ⟨rfl,rfl,.inr (.inl rfl),rfl,rfl⟩),⟨rfl,rfl⟩,rfl⟩
    refine ⟨_,(pss_one (ps_ret (pe_compG rfl CN (pi_rev rfl T.z_reversed (pv 0)) (fun fp s₀ H₀ => (pg_tupK (K := K) (n := 2) rfl rfl (pgs_cons (pg_name (i := 0) CN.nd rfl (Or.inl rfl) (Or.inr rfl)) (pgs_cons (pg_name (i := 1) CN.nd rfl (Or.inl rfl) (Or.inr rfl)) pgs_nil)))) (fun fp s₀ H₀ => pts_nil) (fun fp s₀ H₀ => (@pe_tupA _ _ _ _ _ (@pa_cons _ _ _ _ _ (@pe_tupA _ _ _ _ _ (@pa_cons _ _ _ _ _ (pe_op op_sub (pe_op op_mulX (pv 2) (pe_ix (ix_tupK (K := K) rfl) (pv 0) pe_int (fun _ _ => rfl))) (pe_ix (ix_tupK (K := K) rfl) (pv 0) pe_int (fun _ _ => rfl))) (@pa_cons _ _ _ _ _ (pe_ix (ix_tupK (K := K) rfl) (pv 0) pe_int (fun _ _ => rfl)) pa_nil (by rfl)) (by rfl))) (@pa_cons _ _ _ _ _ (@pe_tupA _ _ _ _ _ (@pa_cons _ _ _ _ _ (pe_op op_sub (pe_op op_mulX (pv 3) (pe_ix (ix_tupK (K := K) rfl) (pv 1) pe_int (fun _ _ => rfl))) (pe_ix (ix_tupK (K := K) rfl) (pv 1) pe_int (fun _ _ => rfl))) (@pa_cons _ _ _ _ _ (pe_ix (ix_tupK (K := K) rfl) (pv 1) pe_int (fun _ _ => rfl)) pa_nil (by rfl)) (by rfl))) pa_nil (by rfl)) (by rfl))))))),?_⟩
    have cm : ∀ {x y : Int},0 ≤ x → x ≤ 100 → CM x y := fun h0 h1 => CM.l (lt64s (by omega) (by omega))
    refine ⟨_,rfl,l,_,rfl,SqL.of PP.lst,comp_revG (K := K) (k := 2) (SqL.of PP.lst) (by rw [prs_len]; omega) (fun i v H' => ∃ q : Pr,v = .ref q.p ∧ PrAt H' q ∧ ∃ u,ps[ps.length - 1 - i]? = some u ∧ Tn n m u q) (fun i v H H' st ⟨q,e,a,b⟩ => ⟨q,e,a.t st,b⟩) ?_ ?_⟩
    · intro i x H2 τ Kc hi hx s2 hτ kk
      obtain ⟨τ0,τ1,rfl⟩ : ∃ τ0 τ1,τ = [τ0,τ1] := by
        match τ,hτ with
        | [a,b],_ => exact ⟨a,b,rfl⟩
      rw [prs_len] at hx
      obtain ⟨q,hq,rfl⟩ := prs_get hx
      have mq := List.mem_of_getElem? hq
      have pq := (PP.mono s2).pr q mq
      have hb := pq.lx.pos
      have hd := pq.ly.pos
      have ii := in_iff.mp (hin q mq)
      have nx := pq.nx
      have ny := pq.ny
      refine ⟨q.p,_,rfl,SqT.of pq.p_,rfl,_,_,rfl,_,_,rfl,rfl,⟨[some (.ref q.x),some (.ref q.y)],rfl,rfl⟩,?_⟩
      have X := SqT.of (K := K) pq.x_
      have Y := SqT.of (K := K) pq.y_
      refine ⟨_,rfl,_,rfl,q.x,_,_,_,rfl,rfl,X,rfl,_,_,rfl,rfl,cm n0 n1,_,rfl,q.x,_,_,_,rfl,rfl,X,rfl,_,_,rfl,rfl,_,rfl,q.x,_,_,_,rfl,rfl,X,rfl,sz (by simp),fun o1 H3 s3 f3 n3 => ?_⟩
      have Y3 := SqT.of (K := K) (s3 _ _ pq.y_)
      refine ⟨_,rfl,_,rfl,q.y,_,_,_,rfl,rfl,Y3,rfl,_,_,rfl,rfl,cm m0 m1,_,rfl,q.y,_,_,_,rfl,rfl,Y3,rfl,_,_,rfl,rfl,_,rfl,q.y,_,_,_,rfl,rfl,Y3,rfl,sz (by simp),fun o2 H4 s4 f4 n4 => ?_⟩
      refine ⟨sz (by simp),fun o H5 s5 f5 n5 => kk _ H5 (s3.trans (s4.trans s5)) ⟨⟨o,o1,o2,n * q.b - q.a,q.b,m * q.d - q.c,q.d⟩,rfl,⟨f5,s5 _ _ (s4 _ _ f3),s5 _ _ f4,low_turn pq.lx,low_turn pq.ly,?_,?_,?_,pq.bb,?_,pq.bd⟩,q,hq,⟨rfl,rfl⟩,rfl,rfl⟩⟩
      · show 0 ≤ n * q.b - q.a
        omega
      · show 0 ≤ m * q.d - q.c
        omega
      · show bits (n * q.b - q.a) ≤ 200
        exact bits_le (pl_bits (n := n) hb pq.bb n0 n1 (by omega) (by omega)) (by decide)
      · show bits (m * q.d - q.c) ≤ 200
        exact bits_le (pl_bits (n := m) hd pq.bd m0 m1 (by omega) (by omega)) (by decide)
    · intro r zs H2 nr s2 f2 hl hr
      obtain ⟨ps',P2,l2,h2⟩ := prs_of (R := fun i q => ∃ u,ps[ps.length - 1 - i]? = some u ∧ Tn n m u q) f2 hr
      rw [prs_len] at hl
      exact k r ps' H2 s2 P2 ⟨by omega,fun j q' hq => by rw [if_pos rfl]; exact h2 j q' hq⟩
theorem S_law_further : FnScope ["walk"] ["walk"] (defScope (top 97)) := ⟨rfl,rfl,rfl,by decide +kernel,rfl,by decide +kernel,by decide +kernel⟩
theorem fn_law_further (D_law_further : Df K mg "_law_further" (top 97)) (T : Txt mg) : Fn P w K mg base "_law_further" ["walk"] 1 spFur := by
  refine D_law_further.fn S_law_further (fun _ _ _ _ _ _ us hl => by obtain ⟨_,rfl⟩ := len1 hl; rfl) (fun vs H Q E h => ?_) (fun f cdv A outer s H vs Q E hr h => ?_)
  · obtain ⟨l,ps,n,m,rfl,_⟩ := h
    rfl
  · obtain ⟨l,ps,n,m,rfl,PP,⟨h1,h8⟩,n1,hin,k⟩ := h
    have CN : CompM (cxOf CX0 P w K mg base ["walk"] "_law_further" (defScope (top 97)) f cdv A outer s H E).nox (lcA (top 97) 0) [] ["x","y"] [] :=
      ⟨by rfl,rfl,by decide +kernel,by decide +kernel,(fun x hx => by simp only [List.mem_cons,List.not_mem_nil,or_false] at hx; rcases hx with rfl | rfl <;> exact rfl),(fun p hp => nomatch hp),by rfl,by decide +kernel,(fun p hp => nomatch hp),⟨rfl,rfl⟩,rfl⟩
    refine ⟨_,(pss_one (ps_ret (pe_op op_catA (pe_slice sl_listA (pv 0) po_none (po_some pe_int)) (pe_compG rfl CN (pi_list (pv 0)) (fun fp s₀ H₀ => (pg_tupK (K := K) (n := 2) rfl rfl (pgs_cons (pg_name (i := 0) CN.nd rfl (Or.inl rfl) (Or.inr rfl)) (pgs_cons (pg_name (i := 1) CN.nd rfl (Or.inl rfl) (Or.inr rfl)) pgs_nil)))) (fun fp s₀ H₀ => pts_nil) (fun fp s₀ H₀ => (@pe_tupA _ _ _ _ _ (@pa_cons _ _ _ _ _ (@pe_tupA _ _ _ _ _ (@pa_cons _ _ _ _ _ (pe_op op_add (pe_ix (ix_tupK (K := K) rfl) (pv 0) pe_int (fun _ _ => rfl)) (pe_ix (ix_tupK (K := K) rfl) (pv 0) pe_int (fun _ _ => rfl))) (@pa_cons _ _ _ _ _ (pe_ix (ix_tupK (K := K) rfl) (pv 0) pe_int (fun _ _ => rfl)) pa_nil (by rfl)) (by rfl))) (@pa_cons _ _ _ _ _ (pv 1) pa_nil (by rfl)) (by rfl)))))))),?_⟩
    have hl0 : (prs ps).length = ps.length := prs_len ps
    refine ⟨_,rfl,_,rfl,l,_,rfl,SqL.of PP.lst,fun lc Hc sc fc _ => ?_⟩
    have P0 := PP.mono sc
    refine ⟨_,rfl,l,rfl,⟨_,SqL.of P0.lst⟩,comp_listG (K := K) (k := 2) (SqL.of P0.lst) (by rw [prs_len]; omega) (fun i v H' => ∃ q : Pr,v = .ref q.p ∧ PrAt H' q ∧ ∃ u,ps[i]? = some u ∧ Fu u q) (fun i v H H' st ⟨q,e,a,b⟩ => ⟨q,e,a.t st,b⟩) ?_ ?_⟩
    · intro i x H2 τ Kc hx s2 hτ kk
      obtain ⟨τ0,τ1,rfl⟩ : ∃ τ0 τ1,τ = [τ0,τ1] := by
        match τ,hτ with
        | [a,b],_ => exact ⟨a,b,rfl⟩
      obtain ⟨q,hq,rfl⟩ := prs_get hx
      have mq := List.mem_of_getElem? hq
      have pq := (P0.mono s2).pr q mq
      have hb := pq.lx.pos
      have ii := in_iff.mp (hin q mq)
      have nx := pq.nx
      refine ⟨q.p,_,rfl,SqT.of pq.p_,rfl,_,_,rfl,_,_,rfl,rfl,⟨[some (.ref q.x),some (.ref q.y)],rfl,rfl⟩,?_⟩
      have X := SqT.of (K := K) pq.x_
      refine ⟨_,rfl,q.x,_,_,_,rfl,rfl,X,rfl,_,rfl,q.x,_,_,_,rfl,rfl,X,rfl,_,_,rfl,rfl,_,rfl,q.x,_,_,_,rfl,rfl,X,rfl,sz (by simp),fun o1 H3 s3 f3 n3 => ?_⟩
      refine ⟨_,rfl,sz (by simp),fun o H5 s5 f5 n5 => kk _ H5 (s3.trans s5) ⟨⟨o,o1,q.y,q.a + q.b,q.b,q.c,q.d⟩,rfl,⟨f5,s5 _ _ f3,s5 _ _ (s3 _ _ pq.y_),?_,pq.ly,?_,pq.ny,?_,pq.bb,pq.bc,pq.bd⟩,q,hq,⟨rfl,rfl⟩,rfl,rfl⟩⟩
      · have := low_add (n := 1) pq.lx
        rw [Int.one_mul,Int.add_comm] at this
        exact this
      · show 0 ≤ q.a + q.b
        omega
      · have n0 : 0 ≤ n := by
          rcases Int.lt_or_le n 0 with z | z
          · have := Int.mul_neg_of_neg_of_pos z hb
            omega
          · exact z
        exact bits_le (bits_add (n := 70) (pl_bits (n := n) hb pq.bb n0 n1 nx ii.1) (bits_le pq.bb (by decide))) (by decide)
    · intro r zs H2 nr s2 f2 hl hr
      obtain ⟨ps',P2,l2,h2⟩ := prs_of (R := fun i q => ∃ u,ps[i]? = some u ∧ Fu u q) f2 hr
      rw [prs_len] at hl
      have e0 : ps[0]? = some ps[0] := List.getElem?_eq_getElem (by omega)
      have ec : cutV (prs ps) none (some 1) = [V.ref ps[0].p] := by
        match ps,h1 with
        | u :: r,_ => rfl
      rw [ec] at fc
      refine ⟨lc,r,_,_,rfl,rfl,s2 _ _ fc,P2.lst,sz (by rw [prs_len]; simp; omega),fun o H3 s3 f3 _ => ?_⟩
      refine k o ps[0] ps' H3 (sc.trans (s2.trans s3)) e0 ⟨by rw [f3]; rfl,fun q hq => ?_⟩ ⟨by omega,fun j q' hq => h2 j q' hq⟩
      rcases List.mem_cons.mp hq with rfl | hq
      · exact (P0.mono (s2.trans s3)).pr _ (List.mem_of_getElem? e0)
      · exact (P2.mono s3).pr q hq
inductive spWA (vs : List V) (H : Hp) (Q : VK) (x_3 : XK) : Prop
  | mk : ∀ (l1 l2 l t f1 f2 f3 : Addr) (qs rs qs' rs' : Crn) (ps ps' : List Pr) (wy : Str),(vs = [.ref l1,.ref l2,.ref l,.str wy,.ref t]) → ((LineAt H l1 qs ∧ 1 ≤ qs.length ∧ qs.length ≤ 20)) → ((LineAt H l2 rs ∧ 1 ≤ rs.length ∧ rs.length ≤ 20)) → ((PairsAt H l ps ∧ ps.length < 400)) → (H t = some (.tup [.ref f1,.ref f2,.ref f3])) → ((LineAt H f1 qs' ∧ 1 ≤ qs'.length ∧ qs'.length ≤ 20)) → ((LineAt H f2 rs' ∧ 1 ≤ rs'.length ∧ rs'.length ≤ 20)) → ((PairsAt H f3 ps' ∧ ps'.length < 400)) → (isWay wy) → (walkB (lst_ qs) (lst_ rs) wy ps = true) → (walkB (lst_ qs') (lst_ rs') wy ps' = true) → ((∀ s w,MaxSq qs' rs' ps' s w → MaxSq qs rs ps s w)) → (∀ H',Same H H' → Q (.bl true) H') → spWA vs H Q x_3
inductive spFA (vs : List V) (H : Hp) (Q : VK) (x_3 : XK) : Prop
  | mk : ∀ (l1 l2 l t f1 f2 f3 : Addr) (qs rs qs' rs' : Crn) (ps ps' : List Pr) (wy : Str),(vs = [.ref l1,.ref l2,.ref l,.str wy,.ref t]) → ((LineAt H l1 qs ∧ 1 ≤ qs.length ∧ qs.length ≤ 20)) → ((LineAt H l2 rs ∧ 1 ≤ rs.length ∧ rs.length ≤ 20)) → ((PairsAt H l ps ∧ ps.length < 400)) → (H t = some (.tup [.ref f1,.ref f2,.ref f3])) → ((LineAt H f1 qs' ∧ 1 ≤ qs'.length ∧ qs'.length ≤ 20)) → ((LineAt H f2 rs' ∧ 1 ≤ rs'.length ∧ rs'.length ≤ 20)) → ((PairsAt H f3 ps' ∧ ps'.length < 400)) → (isWay wy) → (fenceB (lst_ qs) (lst_ rs) wy ps = true) → (fenceB (lst_ qs') (lst_ rs') wy ps' = true) → ((∀ s w,MinSq qs' rs' (FS wy ps') s w → MinSq qs rs (FS wy ps) s w)) → (∀ H',Same H H' → Q (.bl true) H') → spFA vs H Q x_3
inductive spRt20 (vs : List V) (H : Hp) (Q : VK) (x_3 : XK) : Prop
  | mk : ∀ (l1 l2 l lf : Addr) (qs rs : Crn) (ps fs : List Pr) (wy : Str),(vs = [.ref l1,.ref l2,.ref l,.ref lf,.str wy]) → ((LineAt H l1 qs ∧ 1 ≤ qs.length ∧ qs.length ≤ 10)) → ((LineAt H l2 rs ∧ 1 ≤ rs.length ∧ rs.length ≤ 10)) → ((PairsAt H l ps ∧ ps.length ≤ 60)) → ((PairsAt H lf fs ∧ fs.length ≤ 60)) → (isWay wy) → (walkB (lst_ qs) (lst_ rs) wy ps = true) → (fenceB (lst_ qs) (lst_ rs) wy fs = true) → (∀ H',Same H H' → Q (.bl true) H') → spRt20 vs H Q x_3
theorem two_rp {H : Hp} {r : Addr} {a b : Int} (e : H r = some (.tup [.int a,.int b])) : Rp H 9 (.ref r) (.tup [.int a,.int b]) := Rp.t2 e .int .int
theorem la_rev {H : Hp} {l a : Addr} {qs : Crn} (L : LineAt H l qs) (e : H a = some (.lst (qs.map fun q => V.ref q.1).reverse)) : LineAt H a qs.reverse := ⟨by rw [e,List.map_reverse],fun q hq => L.crn q (List.mem_reverse.mp hq)⟩
theorem la_dbl {H : Hp} {l a : Addr} {qs : Crn} (L : LineAt H l qs) (e : H a = some (.lst (((qs.take 1).map fun q => V.ref q.1) ++ qs.map fun q => V.ref q.1))) : LineAt H a (qs.take 1 ++ qs) := ⟨by rw [e,List.map_append],fun q hq => by
  rcases List.mem_append.mp hq with h | h
  · exact L.crn q (List.mem_of_mem_take h)
  · exact L.crn q h⟩
theorem cut_one1 (qs : Crn) : cutV (qs.map fun q => V.ref q.1) none (some 1) = (qs.take 1).map fun q => V.ref q.1 := by
  cases qs with
  | nil => rfl
  | cons q r => rfl
theorem lst_rev (qs : Crn) : lst_ qs.reverse = lst_ qs := by unfold lst_; rw [List.length_reverse]
theorem len_dbl {qs : Crn} (h : 1 ≤ qs.length) : (qs.take 1 ++ qs).length = qs.length + 1 := by rw [List.length_append,List.length_take]; omega
theorem lst_dbl {qs : Crn} (h : 1 ≤ qs.length) : lst_ (qs.take 1 ++ qs) = lst_ qs + 1 := by unfold lst_; rw [len_dbl h]; omega
theorem im_two {ps qs rs : List Pr} (h1 : qs = ps.reverse) (h2 : Im false Sw qs rs) : Im true Sw ps rs := by
  subst h1
  refine ⟨by rw [h2.len,List.length_reverse],fun j q' hq => ?_⟩
  obtain ⟨q,a,b⟩ := h2.at_ j q' hq
  have hj := (List.getElem?_eq_some_iff.mp hq).1
  rw [h2.len,List.length_reverse] at hj
  rw [if_neg (by decide),List.getElem?_reverse hj] at a
  rw [if_pos rfl]
  exact ⟨q,a,b⟩
theorem pa_rev {H : Hp} {l a : Addr} {ps : List Pr} (P : PairsAt H l ps) (e : H a = some (.lst (prs ps).reverse)) : PairsAt H a ps.reverse := ⟨by rw [e]; unfold prs; rw [List.map_reverse],fun q hq => P.pr q (List.mem_reverse.mp hq)⟩
theorem S_law_walks_alike : FnScope ["one","other","walk","way","told","first","second","made"] ["one","other","walk","way","told"] (defScope (top 98)) := ⟨rfl,rfl,rfl,by decide +kernel,rfl,by decide +kernel,by decide +kernel⟩
theorem fn_law_walks_alike {C C9 : Addr} (D_law_walks_alike : Df K mg "_law_walks_alike" (top 98)) (F_is_walk : Fx P w K mg base "is_walk" ["one","other","thing","way"] 7 [.str "on"] (spIsWalk C)) (F_walk_square : Fx P w K mg base "walk_square" ["one","other","walk","way"] 8 [.str "on"] (spWSq C9)) : Fn P w K mg base "_law_walks_alike" ["one","other","walk","way","told"] 9 spWA := by
  refine D_law_walks_alike.fn S_law_walks_alike (fun _ _ _ _ _ _ us hl => by obtain ⟨_,_,_,_,_,rfl⟩ := len5 hl; rfl) (fun vs H Q E h => ?_) (fun f cdv A outer s H vs Q E hr h => ?_)
  · obtain ⟨l1,l2,l,t,f1,f2,f3,qs,rs,qs',rs',ps,ps',wy,rfl,_⟩ := h
    rfl
  · obtain ⟨l1,l2,l,t,f1,f2,f3,qs,rs,qs',rs',ps,ps',wy,rfl,⟨L1,h1,h20⟩,⟨L2,g1,g20⟩,⟨PP,hl⟩,et,⟨L1',h1',h20'⟩,⟨L2',g1',g20'⟩,⟨PP',hl'⟩,hw,wb,wb',mx,k⟩ := h
    refine ⟨_,(pss_cons (ps_asg (pv 4) (pg_tup rfl (pgs_cons (pg_name (i := 5) S_law_walks_alike.nd rfl (Or.inl rfl)) (pgs_cons (pg_name (i := 6) S_law_walks_alike.nd rfl (Or.inl rfl)) (pgs_cons (pg_name (i := 7) S_law_walks_alike.nd rfl (Or.inl rfl)) pgs_nil))))) (pss_cons (ps_if (pt_cmpR op_isnotB (pe_fx0 F_is_walk (hr.mono (by decide)) (by rfl) (pa_cons (pv 5) (pa_cons (pv 6) (pa_cons (pv 7) (pa_cons (pv 3) pa_nil))))) pe_bl (nomark _)) (pss_one (ps_ret pe_bl)) pss_nil) (pss_one (ps_ret (pe_cmpR (op_eqD hr.units10) (pe_fx0 F_walk_square (hr.mono (by decide)) (by rfl) (pa_cons (pv 5) (pa_cons (pv 6) (pa_cons (pv 7) (pa_cons (pv 3) pa_nil))))) (pe_fx0 F_walk_square (hr.mono (by decide)) (by rfl) (pa_cons (pv 0) (pa_cons (pv 1) (pa_cons (pv 2) (pa_cons (pv 3) pa_nil))))) (nomark _)))))),?_⟩
    have hql : (qs'.map fun (q : Addr × Int × Int) => V.ref q.1).length = qs'.length := List.length_map _
    have hrl : (rs'.map fun (q : Addr × Int × Int) => V.ref q.1).length = rs'.length := List.length_map _
    refine ⟨_,rfl,t,_,rfl,SqT.of et,rfl,_,_,rfl,_,_,rfl,_,_,rfl,rfl,?_⟩
    refine ⟨_,rfl,_,rfl,_,rfl,_,rfl,f1,f2,_,_,_,_,_,rfl,⟨L1'.lst,by rw [hql]; omega⟩,⟨L2'.lst,by rw [hrl]; omega⟩,PP'.th (by omega),.str _,.inl ⟨wy,rfl,hw,fun b H1 s1 wv => ?_⟩⟩
    rw [hql,hrl] at wv
    have hb : b = true := by rw [walkV_eq PP' wv]; exact wb'
    subst hb
    refine ⟨_,_,rfl,rfl,_,rfl,iteFalse rfl ?_⟩
    refine ⟨_,rfl,_,rfl,_,rfl,_,rfl,f1,f2,f3,qs',rs',ps',wy,rfl,⟨L1'.mono s1,h1',h20'⟩,⟨L2'.mono s1,g1',g20'⟩,PP'.mono s1,by omega,hw,(fun z => absurd z (by rw [wb']; decide)),fun _ r s' w' H2 fr ms s2 => ?_⟩
    have S2 := s1.trans s2
    refine ⟨_,rfl,_,rfl,_,rfl,_,rfl,l1,l2,l,qs,rs,ps,wy,rfl,⟨L1.mono S2,h1,h20⟩,⟨L2.mono S2,g1,g20⟩,PP.mono S2,by omega,hw,(fun z => absurd z (by rw [wb]; decide)),fun _ r2 s2' w2' H3 fr2 ms2 s3 => ?_⟩
    obtain ⟨e1,e2⟩ := (mx _ _ ms).uniq (fun q hq => ⟨(PP.pr q hq).lx.pos,(PP.pr q hq).ly.pos⟩) ms2
    subst e1 e2
    refine ⟨_,_,two_rp (s3 _ _ fr.at_),two_rp fr2.at_,?_⟩
    rw [deq_self]
    exact k H3 (S2.trans s3)
theorem S_law_fences_alike : FnScope ["one","other","fence","way","told","first","second","made"] ["one","other","fence","way","told"] (defScope (top 99)) := ⟨rfl,rfl,rfl,by decide +kernel,rfl,by decide +kernel,by decide +kernel⟩
theorem fn_law_fences_alike {C C9 : Addr} (D_law_fences_alike : Df K mg "_law_fences_alike" (top 99)) (F_is_fence : Fx P w K mg base "is_fence" ["one","other","thing","way"] 8 [.str "on"] (spIsFence C)) (F_fence_square : Fx P w K mg base "fence_square" ["one","other","fence","way"] 10 [.str "on"] (spFSq C9)) : Fn P w K mg base "_law_fences_alike" ["one","other","fence","way","told"] 11 spFA := by
  refine D_law_fences_alike.fn S_law_fences_alike (fun _ _ _ _ _ _ us hl => by obtain ⟨_,_,_,_,_,rfl⟩ := len5 hl; rfl) (fun vs H Q E h => ?_) (fun f cdv A outer s H vs Q E hr h => ?_)
  · obtain ⟨l1,l2,l,t,f1,f2,f3,qs,rs,qs',rs',ps,ps',wy,rfl,_⟩ := h
    rfl
  · obtain ⟨l1,l2,l,t,f1,f2,f3,qs,rs,qs',rs',ps,ps',wy,rfl,⟨L1,h1,h20⟩,⟨L2,g1,g20⟩,⟨PP,hl⟩,et,⟨L1',h1',h20'⟩,⟨L2',g1',g20'⟩,⟨PP',hl'⟩,hw,wb,wb',mx,k⟩ := h
    refine ⟨_,(pss_cons (ps_asg (pv 4) (pg_tup rfl (pgs_cons (pg_name (i := 5) S_law_fences_alike.nd rfl (Or.inl rfl)) (pgs_cons (pg_name (i := 6) S_law_fences_alike.nd rfl (Or.inl rfl)) (pgs_cons (pg_name (i := 7) S_law_fences_alike.nd rfl (Or.inl rfl)) pgs_nil))))) (pss_cons (ps_if (pt_cmpR op_isnotB (pe_fx0 F_is_fence (hr.mono (by decide)) (by rfl) (pa_cons (pv 5) (pa_cons (pv 6) (pa_cons (pv 7) (pa_cons (pv 3) pa_nil))))) pe_bl (nomark _)) (pss_one (ps_ret pe_bl)) pss_nil) (pss_one (ps_ret (pe_cmpR (op_eqD hr.units10) (pe_fx0 F_fence_square (hr.mono (by decide)) (by rfl) (pa_cons (pv 5) (pa_cons (pv 6) (pa_cons (pv 7) (pa_cons (pv 3) pa_nil))))) (pe_fx0 F_fence_square (hr.mono (by decide)) (by rfl) (pa_cons (pv 0) (pa_cons (pv 1) (pa_cons (pv 2) (pa_cons (pv 3) pa_nil))))) (nomark _)))))),?_⟩
    have hql : (qs'.map fun (q : Addr × Int × Int) => V.ref q.1).length = qs'.length := List.length_map _
    have hrl : (rs'.map fun (q : Addr × Int × Int) => V.ref q.1).length = rs'.length := List.length_map _
    refine ⟨_,rfl,t,_,rfl,SqT.of et,rfl,_,_,rfl,_,_,rfl,_,_,rfl,rfl,?_⟩
    refine ⟨_,rfl,_,rfl,_,rfl,_,rfl,f1,f2,_,_,_,_,_,rfl,⟨L1'.lst,by rw [hql]; omega⟩,⟨L2'.lst,by rw [hrl]; omega⟩,PP'.th (by omega),.str _,.inl ⟨wy,rfl,hw,fun b H1 s1 wv => ?_⟩⟩
    rw [hql,hrl] at wv
    have hb : b = true := by rw [fenceV_eq PP' wv]; exact wb'
    subst hb
    refine ⟨_,_,rfl,rfl,_,rfl,iteFalse rfl ?_⟩
    refine ⟨_,rfl,_,rfl,_,rfl,_,rfl,f1,f2,f3,qs',rs',ps',wy,rfl,⟨L1'.mono s1,h1',h20'⟩,⟨L2'.mono s1,g1',g20'⟩,PP'.mono s1,by omega,hw,(fun z => absurd z (by rw [wb']; decide)),fun _ r s' w' H2 fr ms s2 => ?_⟩
    have S2 := s1.trans s2
    refine ⟨_,rfl,_,rfl,_,rfl,_,rfl,l1,l2,l,qs,rs,ps,wy,rfl,⟨L1.mono S2,h1,h20⟩,⟨L2.mono S2,g1,g20⟩,PP.mono S2,by omega,hw,(fun z => absurd z (by rw [wb]; decide)),fun _ r2 s2' w2' H3 fr2 ms2 s3 => ?_⟩
    obtain ⟨e1,e2⟩ := (mx _ _ ms).uniq ms2
    subst e1 e2
    refine ⟨_,_,two_rp (s3 _ _ fr.at_),two_rp fr2.at_,?_⟩
    rw [deq_self]
    exact k H3 (S2.trans s3)
theorem S_law_right : FnScope ["one","other","walk","fence","way","n","m","turned","doubled","across"] ["one","other","walk","fence","way"] (defScope (top 100)) := ⟨rfl,rfl,rfl,by decide +kernel,rfl,by decide +kernel,by decide +kernel⟩
theorem fn_law_right (D_law_right : Df K mg "_law_right" (top 100)) (F_law_walks_alike : Fn P w K mg base "_law_walks_alike" ["one","other","walk","way","told"] 9 spWA) (F_law_fences_alike : Fn P w K mg base "_law_fences_alike" ["one","other","fence","way","told"] 11 spFA) (F_law_from_end : Fn P w K mg base "_law_from_end" ["pairs","n","m"] 1 spFrE) (F_law_further : Fn P w K mg base "_law_further" ["walk"] 1 spFur) (F_law_across : Fn P w K mg base "_law_across" ["pairs"] 1 spAcr) (T : Txt mg) : Fn P w K mg base "_law_right" ["one","other","walk","fence","way"] 12 spRt20 := by
  refine D_law_right.fn S_law_right (fun _ _ _ _ _ _ us hl => by obtain ⟨_,_,_,_,_,rfl⟩ := len5 hl; rfl) (fun vs H Q E h => ?_) (fun f cdv A outer s H vs Q E hr h => ?_)
  · obtain ⟨l1,l2,l,lf,qs,rs,ps,fs,wy,rfl,_⟩ := h
    rfl
  · obtain ⟨l1,l2,l,lf,qs,rs,ps,fs,wy,rfl,⟨L1,h1,h10⟩,⟨L2,g1,g10⟩,⟨PP,hl⟩,⟨PF,hf⟩,hw,wb,fb,k⟩ := h
    have hql : (qs.map fun (q : Addr × Int × Int) => V.ref q.1).length = qs.length := List.length_map _
    have hrl : (rs.map fun (q : Addr × Int × Int) => V.ref q.1).length = rs.length := List.length_map _
    have gw : ∀ q ∈ ps,Gd q ∧ inB (lst_ qs) (lst_ rs) q = true := fun q hq => ⟨gd_of (PP.pr q hq),(walk_all wb).2 q hq⟩
    have gf : ∀ q ∈ fs,Gd q ∧ inB (lst_ qs) (lst_ rs) q = true := fun q hq => ⟨gd_of (PF.pr q hq),(fence_all fb).2.1 q hq⟩
    have eN : (((qs.map fun (q : Addr × Int × Int) => V.ref q.1).length : Nat) : Int) - 1 = lst_ qs := by rw [hql]; rfl
    have eM : (((rs.map fun (q : Addr × Int × Int) => V.ref q.1).length : Nat) : Int) - 1 = lst_ rs := by rw [hrl]; rfl
    have n0 : 0 ≤ lst_ qs ∧ lst_ qs ≤ 9 := by unfold lst_; omega
    have m0 : 0 ≤ lst_ rs ∧ lst_ rs ≤ 9 := by unfold lst_; omega
    have p1 : 1 ≤ ps.length := by
      have := (walk_all wb).1
      cases ps with
      | nil => exact absurd rfl this
      | cons a b => simp
    have R : ∃ u : TS,PSs (cxOf CX0 P w K mg base ["one","other","walk","fence","way","n","m","turned","doubled","across"] "_law_right" (defScope (top 100)) f cdv A outer s H E).nox ((defBody (top 100)).drop 7) u ∧ ∀ (H1 : Hp) (z7 z8 z9 : Option V),Same H H1 → u { nx := fun _ H' => Q .non H',rt := Q } [some (.ref l1),some (.ref l2),some (.ref l),some (.ref lf),some (.str wy),some (.int (lst_ qs)),some (.int (lst_ rs)),z7,z8,z9] H1 := by
      refine ⟨_,(pss_cons (ps_if (pt_cmpR op_eq (pv 4) pe_str (nomark _)) (pss_one (ps_ret pe_bl)) pss_nil) (pss_cons (ps_if (pt_not (pt_val (pe_fn F_law_walks_alike (hr.mono (by decide)) (by rfl) (pa_cons (pv 0) (pa_cons (pv 1) (pa_cons (pv 2) (pa_cons (pv 4) (pa_cons (pe_tupA (pa_cons (pv 1) (pa_cons (pv 0) (pa_cons (pe_fn F_law_across (hr.mono (by decide)) (by rfl) (pa_cons (pv 2) pa_nil)) pa_nil)))) pa_nil)))))))) (pss_one (ps_ret pe_bl)) pss_nil) (pss_cons (ps_set (i := 9) S_law_right.nd rfl (Or.inl rfl) (pe_fn F_law_across (hr.mono (by decide)) (by rfl) (pa_cons (pe_list_rev rfl rfl T.z_list rfl T.z_reversed (pv 3)) pa_nil))) (pss_one (ps_ret (pe_fn F_law_fences_alike (hr.mono (by decide)) (by rfl) (pa_cons (pv 0) (pa_cons (pv 1) (pa_cons (pv 3) (pa_cons (pv 4) (pa_cons (pe_tupA (pa_cons (pv 1) (pa_cons (pv 0) (pa_cons (pv 9) pa_nil)))) pa_nil))))))))))),fun H1 z7 z8 z9 s1 => ?_⟩
      refine ⟨_,rfl,rfl,_,rfl,ite3 (fun c => k H1 s1) (fun c => ?_)⟩
      have np : ¬ wy = wPart := dec_f (ds c)
      refine ⟨_,rfl,_,rfl,_,rfl,_,rfl,_,rfl,_,rfl,_,rfl,l,ps,rfl,PP.mono s1,by omega,fun l2' ps2 H2 s2 P2 im => ?_⟩
      refine ⟨sz (by simp),fun t H3 s3 f3 _ => ?_⟩
      have S3 := s1.trans (s2.trans s3)
      have le2 := im.len
      refine ⟨l1,l2,l,t,l2,l1,l2',qs,rs,rs,qs,ps,ps2,wy,rfl,⟨L1.mono S3,h1,by omega⟩,⟨L2.mono S3,g1,by omega⟩,⟨PP.mono S3,by omega⟩,f3,⟨L2.mono S3,g1,by omega⟩,⟨L1.mono S3,h1,by omega⟩,⟨P2.mono s3,by omega⟩,hw,wb,walk_sw np im wb,(fun s w ms => max_sw im ms),fun H4 s4 => ⟨_,rfl,iteFalse rfl ?_⟩⟩
      have S4 := S3.trans s4
      refine ⟨_,rfl,lf,_,rfl,SqL.of (PF.mono S4).lst,fun lr H5 s5 f5 _ => ?_⟩
      have PR := pa_rev (PF.mono (S4.trans s5)) f5
      refine ⟨lr,fs.reverse,rfl,PR,by rw [List.length_reverse]; omega,fun l6 ps6 H6 s6 P6 im6 => ?_⟩
      have im' := im_two rfl im6
      have le6 := im'.len
      refine ⟨_,rfl,_,rfl,_,rfl,_,rfl,_,rfl,_,rfl,_,rfl,sz (by simp),fun t7 H7 s7 f7 _ => ?_⟩
      have S7 := S4.trans (s5.trans (s6.trans s7))
      exact ⟨l1,l2,lf,t7,l2,l1,l6,qs,rs,rs,qs,fs,ps6,wy,rfl,⟨L1.mono S7,h1,by omega⟩,⟨L2.mono S7,g1,by omega⟩,⟨PF.mono S7,by omega⟩,f7,⟨L2.mono S7,g1,by omega⟩,⟨L1.mono S7,h1,by omega⟩,⟨P6.mono s7,by omega⟩,hw,fb,fence_sw np (fun q hq => (gf q hq).1) im' fb,(fun s w ms => min_sw im' ms),fun H8 s8 => k H8 (S7.trans s8)⟩
    obtain ⟨u,hu,fin⟩ := R
    refine ⟨_,(pss_cons (ps_set (i := 5) S_law_right.nd rfl (Or.inl rfl) (pe_op op_sub (pe_callB call_len_seq (by rfl) T.z_len bt_len (pa_cons (pv 0) pa_nil)) pe_int)) (pss_cons (ps_set (i := 6) S_law_right.nd rfl (Or.inl rfl) (pe_op op_sub (pe_callB call_len_seq (by rfl) T.z_len bt_len (pa_cons (pv 1) pa_nil)) pe_int)) (pss_cons (ps_set (i := 7) S_law_right.nd rfl (Or.inl rfl) (pe_tupA (pa_cons (pe_list_rev rfl rfl T.z_list rfl T.z_reversed (pv 0)) (pa_cons (pe_list_rev rfl rfl T.z_list rfl T.z_reversed (pv 1)) pa_nil)))) (pss_cons (ps_if (pt_not (pt_val (pe_fn F_law_walks_alike (hr.mono (by decide)) (by rfl) (pa_cons (pv 0) (pa_cons (pv 1) (pa_cons (pv 2) (pa_cons (pv 4) (pa_cons (pe_op op_catTA (pv 7) (pe_tupA (pa_cons (pe_fn F_law_from_end (hr.mono (by decide)) (by rfl) (pa_cons (pv 2) (pa_cons (pv 5) (pa_cons (pv 6) pa_nil)))) pa_nil))) pa_nil)))))))) (pss_one (ps_ret pe_bl)) pss_nil) (pss_cons (ps_if (pt_not (pt_val (pe_fn F_law_fences_alike (hr.mono (by decide)) (by rfl) (pa_cons (pv 0) (pa_cons (pv 1) (pa_cons (pv 3) (pa_cons (pv 4) (pa_cons (pe_op op_catTA (pv 7) (pe_tupA (pa_cons (pe_fn F_law_from_end (hr.mono (by decide)) (by rfl) (pa_cons (pv 3) (pa_cons (pv 5) (pa_cons (pv 6) pa_nil)))) pa_nil))) pa_nil)))))))) (pss_one (ps_ret pe_bl)) pss_nil) (pss_cons (ps_set (i := 8) S_law_right.nd rfl (Or.inl rfl) (pe_tupA (pa_cons (pe_op op_catA (pe_slice sl_listA (pv 0) po_none (po_some pe_int)) (pv 0)) (pa_cons (pv 1) (pa_cons (pe_fn F_law_further (hr.mono (by decide)) (by rfl) (pa_cons (pv 2) pa_nil)) pa_nil))))) (pss_cons (ps_if (pw_and (pt_cmpR op_lt (pv 5) pe_int (nomark _)) (pw_and1 (pt_not (pt_val (pe_fn F_law_walks_alike (hr.mono (by decide)) (by rfl) (pa_cons (pv 0) (pa_cons (pv 1) (pa_cons (pv 2) (pa_cons (pv 4) (pa_cons (pv 8) pa_nil)))))))))).pt (pss_one (ps_ret pe_bl)) pss_nil) hu))))))),?_⟩
    refine ⟨_,rfl,l1,_,rfl,.inl (SqL.of L1.lst),_,_,rfl,rfl,?_⟩
    refine ⟨_,rfl,l2,_,rfl,.inl (SqL.of L2.lst),_,_,rfl,rfl,?_⟩
    rw [eN,eM]
    refine ⟨_,rfl,l1,_,rfl,SqL.of L1.lst,fun a1 H1 s1 f1 _ => ?_⟩
    refine ⟨_,rfl,l2,_,rfl,SqL.of (L2.mono s1).lst,fun a2 H2 s2 f2 _ => ?_⟩
    refine ⟨sz (by simp),fun tt H3 s3 f3 _ => ?_⟩
    have S2 := s1.trans s2
    have S3 := S2.trans s3
    have A1 := (la_rev (L1.mono s1) f1).mono (s2.trans s3)
    have A2 := (la_rev (L2.mono S2) f2).mono s3
    have ra1 : qs.reverse.length = qs.length := List.length_reverse
    have ra2 : rs.reverse.length = rs.length := List.length_reverse
    refine ⟨_,rfl,_,rfl,_,rfl,_,rfl,_,rfl,_,rfl,_,rfl,_,rfl,l,ps,lst_ qs,lst_ rs,rfl,PP.mono S3,by omega,⟨n0.1,by omega⟩,⟨m0.1,by omega⟩,fun q hq => (gw q hq).2,fun l4 ps4 H4 s4 P4 im4 => ?_⟩
    refine ⟨sz (by simp),fun o5 H5 s5 f5 _ => ⟨tt,o5,_,_,rfl,rfl,s5 _ _ (s4 _ _ f3),f5,⟨by simp,by simp⟩,sz (by simp),fun t6 H6 s6 f6 _ => ?_⟩⟩
    have T6 := s4.trans (s5.trans s6)
    have S6 := S3.trans T6
    have le4 := im4.len
    refine ⟨l1,l2,l,t6,a1,a2,l4,qs,rs,qs.reverse,rs.reverse,ps,ps4,wy,rfl,⟨L1.mono S6,h1,by omega⟩,⟨L2.mono S6,g1,by omega⟩,⟨PP.mono S6,by omega⟩,f6,⟨A1.mono T6,by omega,by omega⟩,⟨A2.mono T6,by omega,by omega⟩,⟨P4.mono (s5.trans s6),by omega⟩,hw,wb,by rw [lst_rev,lst_rev]; exact walk_turn (fun q hq => (gw q hq).1) im4 wb,(fun s w ms => max_turn h1 g1 gw im4 ms),fun H7 s7 => ⟨_,rfl,iteFalse rfl ?_⟩⟩
    have T7 := T6.trans s7
    have S7 := S3.trans T7
    refine ⟨_,rfl,_,rfl,_,rfl,_,rfl,_,rfl,_,rfl,_,rfl,_,rfl,lf,fs,lst_ qs,lst_ rs,rfl,PF.mono S7,by omega,⟨n0.1,by omega⟩,⟨m0.1,by omega⟩,fun q hq => (gf q hq).2,fun l8 ps8 H8 s8 P8 im8 => ?_⟩
    refine ⟨sz (by simp),fun o9 H9 s9 f9 _ => ⟨tt,o9,_,_,rfl,rfl,s9 _ _ (s8 _ _ (T7 _ _ f3)),f9,⟨by simp,by simp⟩,sz (by simp),fun t10 H10 s10 f10 _ => ?_⟩⟩
    have T10 := T7.trans (s8.trans (s9.trans s10))
    have S10 := S3.trans T10
    have le8 := im8.len
    refine ⟨l1,l2,lf,t10,a1,a2,l8,qs,rs,qs.reverse,rs.reverse,fs,ps8,wy,rfl,⟨L1.mono S10,h1,by omega⟩,⟨L2.mono S10,g1,by omega⟩,⟨PF.mono S10,by omega⟩,f10,⟨A1.mono T10,by omega,by omega⟩,⟨A2.mono T10,by omega,by omega⟩,⟨P8.mono (s9.trans s10),by omega⟩,hw,fb,by rw [lst_rev,lst_rev]; exact fence_turn (fun q hq => (gf q hq).1) im8 fb,(fun s w ms => min_turn h1 g1 gf im8 ms),fun H11 s11 => ⟨_,rfl,iteFalse rfl ?_⟩⟩
    have S11 := S10.trans s11
    refine ⟨_,rfl,_,rfl,l1,_,rfl,SqL.of (L1.mono S11).lst,fun a12 H12 s12 f12 _ => ?_⟩
    rw [cut_one1] at f12
    have L12 := (L1.mono S11).mono s12
    refine ⟨_,rfl,a12,l1,_,_,rfl,rfl,f12,L12.lst,sz (by rw [List.length_map,List.length_map,List.length_take]; omega),fun a13 H13 s13 f13 _ => ?_⟩
    have S13 := S11.trans (s12.trans s13)
    have LD := la_dbl (L12.mono s13) f13
    refine ⟨_,rfl,_,rfl,l,ps,lst_ qs,lst_ rs,rfl,PP.mono S13,⟨p1,by omega⟩,by omega,fun q hq => (gw q hq).2,fun l14 f ps14 H14 s14 ef P14 im14 => ?_⟩
    refine ⟨sz (by simp),fun t15 H15 s15 f15 _ => ?_⟩
    have T15 := s14.trans s15
    have S15 := S13.trans T15
    refine ⟨_,rfl,_,_,rfl,rfl,_,rfl,ite3 (fun c => ?_) (fun c => fin H15 _ _ _ S15)⟩
    have c : lst_ qs < 9 := dec_t c
    have le14 := im14.len
    have mf := List.mem_of_getElem? ef
    have fe : (f.a = 0 ∧ f.b = 1) ∧ (wy = wHops → f.d = 1) := by
      have W := walk_ch.mp wb
      obtain ⟨z,ez⟩ : ∃ z,ps[ps.length - 1]? = some z := ⟨_,List.getElem?_eq_getElem (by omega)⟩
      have e := ends_iff.mp (W.e f z ef ez)
      refine ⟨e.1.1,fun hh => ?_⟩
      exact (e.2 (fun z => by rw [hh] at z; exact absurd z (by decide))).1.2
    refine ⟨_,rfl,_,rfl,_,rfl,_,rfl,_,rfl,l1,l2,l,t15,a13,l2,l14,qs,rs,qs.take 1 ++ qs,rs,ps,f :: ps14,wy,rfl,⟨L1.mono S15,h1,by omega⟩,⟨L2.mono S15,g1,by omega⟩,⟨PP.mono S15,by omega⟩,f15,⟨LD.mono T15,by rw [len_dbl h1]; omega,by rw [len_dbl h1]; omega⟩,⟨L2.mono S15,g1,by omega⟩,⟨P14.mono s15,by rw [List.length_cons]; omega⟩,hw,wb,by rw [lst_dbl h1]; exact walk_fu (fun q hq => (gw q hq).1) n0.1 fe.2 ef im14 ⟨⟨rfl,rfl⟩,rfl,rfl⟩ wb,(fun s w ms => max_fu h1 gw mf fe.1 ⟨⟨rfl,rfl⟩,rfl,rfl⟩ im14 ms),fun H16 s16 => ⟨_,rfl,iteFalse rfl (fin H16 _ _ _ (S15.trans s16))⟩⟩
theorem S_law : FnScope ["script","one","other","cell","pot","way","walk","fence"] ["script"] (defScope (top 101)) := ⟨rfl,rfl,rfl,by decide +kernel,rfl,by decide +kernel,by decide +kernel⟩
theorem fn_law (D_law : Df K mg "law" (top 101)) (F_law_lines : Fn P w K mg base "_law_lines" ["script"] 5 (spLines K)) (F_law_folded : Fn P w K mg base "_law_folded" ["cells","many"] 1 spFolded) (F_law_begun : Fn P w K mg base "_law_begun" ["cell"] 1 Dr.spBegun) (F_law_drawn_way : Fn P w K mg base "_law_drawn_way" ["pot"] 2 spDWay) (F_law_drawn_walk : Fn P w K mg base "_law_drawn_walk" ["pot","n","m","way"] 5 spDWalk) (F_law_drawn_fence : Fn P w K mg base "_law_drawn_fence" ["pot","n","m","way"] 6 spDFence) (F_law_right : Fn P w K mg base "_law_right" ["one","other","walk","fence","way"] 12 spRt20) (T : Txt mg) : Fn P w K mg base "law" ["script"] 13 (spLaw K) := by
  refine D_law.fn S_law (fun _ _ _ _ _ _ us hl => by obtain ⟨_,rfl⟩ := len1 hl; rfl) (fun vs H Q E h => ?_) (fun f cdv A outer s H vs Q E hr h => ?_)
  · obtain ⟨sa,ss,rfl,_⟩ := h
    rfl
  · obtain ⟨sa,ss,rfl,hS,hlen,fin⟩ := h
    refine ⟨_,(pss_cons (ps_asg (pe_fn F_law_lines (hr.mono (by decide)) (by rfl) (pa_cons (pv 0) pa_nil)) (pg_tup rfl (pgs_cons (pg_name (i := 1) S_law.nd rfl (Or.inl rfl)) (pgs_cons (pg_name (i := 2) S_law.nd rfl (Or.inl rfl)) pgs_nil)))) (pss_cons (ps_for PassesOwn.never rfl (pi_list (pe_fn F_law_folded (hr.mono (by decide)) (by rfl) (pa_cons (pe_slice sl_listA (pv 0) (po_some pe_int) po_none) (pa_cons pe_int pa_nil)))) (pg_name (i := 3) S_law.nd rfl (Or.inl rfl)) (pss_cons (ps_set (i := 4) S_law.nd rfl (Or.inl rfl) (pe_fn F_law_begun (hr.mono (by decide)) (by rfl) (pa_cons (pv 3) pa_nil))) (pss_cons (ps_set (i := 5) S_law.nd rfl (Or.inl rfl) (pe_fn F_law_drawn_way (hr.mono (by decide)) (by rfl) (pa_cons (pv 4) pa_nil))) (pss_cons (ps_set (i := 6) S_law.nd rfl (Or.inl rfl) (pe_fn F_law_drawn_walk (hr.mono (by decide)) (by rfl) (pa_cons (pv 4) (pa_cons (pe_op op_sub (pe_callB call_len_seq (by rfl) T.z_len bt_len (pa_cons (pv 1) pa_nil)) pe_int) (pa_cons (pe_op op_sub (pe_callB call_len_seq (by rfl) T.z_len bt_len (pa_cons (pv 2) pa_nil)) pe_int) (pa_cons (pv 5) pa_nil)))))) (pss_cons (ps_set (i := 7) S_law.nd rfl (Or.inl rfl) (pe_fn F_law_drawn_fence (hr.mono (by decide)) (by rfl) (pa_cons (pv 4) (pa_cons (pe_op op_sub (pe_callB call_len_seq (by rfl) T.z_len bt_len (pa_cons (pv 1) pa_nil)) pe_int) (pa_cons (pe_op op_sub (pe_callB call_len_seq (by rfl) T.z_len bt_len (pa_cons (pv 2) pa_nil)) pe_int) (pa_cons (pv 5) pa_nil)))))) (pss_one (ps_if (pt_not (pt_val (pe_fn F_law_right (hr.mono (by decide)) (by rfl) (pa_cons (pv 1) (pa_cons (pv 2) (pa_cons (pv 6) (pa_cons (pv 7) (pa_cons (pv 5) pa_nil)))))))) (pss_one (ps_ret pe_bl)) pss_nil))))))) (pss_one (ps_ret pe_bl)))),?_⟩
    refine ⟨_,rfl,sa,ss,rfl,hS,fun t l r qs rs H1 s1 et L1 ⟨h1,h10⟩ R1 ⟨g1,g10⟩ _ _ _ => ?_⟩
    have hql : (qs.map fun (q : Addr × Int × Int) => V.ref q.1).length = qs.length := List.length_map _
    have hrl : (rs.map fun (q : Addr × Int × Int) => V.ref q.1).length = rs.length := List.length_map _
    refine ⟨t,_,rfl,SqT.of et,rfl,_,_,rfl,_,_,rfl,rfl,?_⟩
    refine ⟨_,rfl,_,rfl,sa,_,rfl,s1.seq hS,fun c H2 s2 f2 n2 => ?_⟩
    rw [show (2 : Int) = ((2 : Nat) : Int) from rfl,cut_from] at f2
    refine ⟨c,_,rfl,f2,by rw [List.length_drop]; omega,fun fo zs H3 e3 s3 => ?_⟩
    have L3 := (L1.mono s2).mono s3
    have R3 := (R1.mono s2).mono s3
    have N0 : 0 ≤ (((qs.map fun (q : Addr × Int × Int) => V.ref q.1).length : Nat) : Int) - 1 := by omega
    have N1 : (((qs.map fun (q : Addr × Int × Int) => V.ref q.1).length : Nat) : Int) - 1 ≤ 20 := by omega
    have M0 : 0 ≤ (((rs.map fun (q : Addr × Int × Int) => V.ref q.1).length : Nat) : Int) - 1 := by omega
    have M1 : (((rs.map fun (q : Addr × Int × Int) => V.ref q.1).length : Nat) : Int) - 1 ≤ 20 := by omega
    have eN : (((qs.map fun (q : Addr × Int × Int) => V.ref q.1).length : Nat) : Int) - 1 = lst_ qs := by rw [hql]; rfl
    have eM : (((rs.map fun (q : Addr × Int × Int) => V.ref q.1).length : Nat) : Int) - 1 = lst_ rs := by rw [hrl]; rfl
    refine ⟨fo,rfl,⟨_,SqL.of e3⟩,for_list (K := K) (a := fo) (xs := zs.map V.int) (fun i σ H4 => ∃ z5 z6 z7 z8 z9,σ = [some (.ref sa),some (.ref l),some (.ref r),z5,z6,z7,z8,z9] ∧ Same H3 H4)
      ⟨none,none,none,none,none,rfl,Same.refl _⟩ (fun i σ H4 _ ⟨_,_,_,_,_,_,s4⟩ => SqL.of (s4 _ _ e3)) ?_ ?_⟩
    · rintro i x σ H4 hx ⟨z5,z6,z7,z8,z9,rfl,s4⟩
      rw [List.getElem?_map] at hx
      obtain ⟨cc,_,rfl⟩ := Option.map_eq_some_iff.mp hx
      have L4 := L3.mono s4
      have R4 := R3.mono s4
      refine ⟨_,rfl,cc,rfl,fun p H5 s5 n5 p5 => ?_⟩
      refine ⟨_,rfl,p,_,rfl,p5,by decide,fun wy H6 hw b6 p6 => ?_⟩
      have L6 := L4.mono (b6.same s5 n5)
      have R6 := R4.mono (b6.same s5 n5)
      refine ⟨_,rfl,_,rfl,l,_,rfl,.inl (SqL.of L6.lst),_,_,rfl,rfl,_,rfl,r,_,rfl,.inl (SqL.of R6.lst),_,_,rfl,rfl,_,rfl,p,_,_,_,wy,rfl,p6,by omega,⟨N0,N1⟩,⟨M0,M1⟩,fun l7 ps H7 P7 g7 h7 n7 b7 p7 => ?_⟩
      have L7 := L4.mono ((b6.trans b7).same s5 n5)
      have R7 := R4.mono ((b6.trans b7).same s5 n5)
      refine ⟨_,rfl,_,rfl,l,_,rfl,.inl (SqL.of L7.lst),_,_,rfl,rfl,_,rfl,r,_,rfl,.inl (SqL.of R7.lst),_,_,rfl,rfl,_,rfl,p,_,_,_,wy,rfl,p7,by omega,⟨N0,N1⟩,⟨M0,M1⟩,fun l8 fs H8 P8 g8 h8 n8 b8 p8 => ?_⟩
      have m7 : l7 ≠ p := Pot.ne p6 n7
      have B8 := b6.trans (b7.trans b8)
      have L8 := L4.mono (B8.same s5 n5)
      have R8 := R4.mono (B8.same s5 n5)
      have w7 := g7.walk
      have w8 := g8.fence
      rw [eN,eM] at w7 w8
      refine ⟨_,rfl,_,rfl,_,rfl,_,rfl,_,rfl,l,r,l7,l8,qs,rs,ps,fs,wy,rfl,⟨L8.la,h1,h10⟩,⟨R8.la,g1,g10⟩,⟨prs_but P7 b8 p7 m7,h7⟩,⟨P8,h8⟩,hw,w7,w8,fun H9 s9 => ⟨_,rfl,iteFalse rfl ?_⟩⟩
      exact ⟨_,_,_,_,_,rfl,s4.trans ((B8.trans (But.of s9)).same s5 n5)⟩
    · rintro σ H4 ⟨z5,z6,z7,z8,z9,rfl,s4⟩
      exact fin _
end
theorem hLeft : PySem.W.LeftO PySem.Challenge.rw_oneleash_k20_whole_exchanged_and_turned.prog hView hLoose (fun _ => true) (PySem.W.Hook.obs (Hd.hook hFacts hGood)) (PySem.W.Hook.val (Hd.hook hFacts hGood)) 100000 := hAll
theorem all_of {P : Program} {w : World} {K : PySem.W.Frag} (FK : hFacts K = hGood) {h : Heap} {mg : Str → Option Value} {fa : Addr} (X : K.In h) (G : h.Ns mainGlobals mg) (hfa : mg "law" = some (.ref fa)) :
    ∃ fd : FuncData,(∀ (s : Shared) (v : Value),BindsTo s fd ⟨[v],[]⟩ [("script",v)]) ∧ ∀ base : Heap,K.In base → base.Ns mainGlobals mg → FnOk P w K mg base CX0 13 fa fd ["script"] (spLaw K) := by
  have H0 : (hNames0.map (fun p => Hd.fnFact K p.1) : List (Option (Arguments × List Stmt × Scope × Value))) = hNames0.map (fun p => some (defArgs (top p.2),defBody (top p.2),defScope (top p.2),.none)) := (congrArg Prod.fst FK)
  have H1 : (hNames1.map (fun p => Hd.fnFact K p.1) : List (Option (Arguments × List Stmt × Scope × Value))) = hNames1.map (fun p => some (defArgs (top p.2),defBody (top p.2),defScope (top p.2),.none)) := (congrArg Prod.fst (congrArg Prod.snd FK))
  have H2 : (hNames2.map (fun p => Hd.fnFact K p.1) : List (Option (Arguments × List Stmt × Scope × Value))) = hNames2.map (fun p => some (defArgs (top p.2),defBody (top p.2),defScope (top p.2),.none)) := (congrArg Prod.fst (congrArg Prod.snd (congrArg Prod.snd FK)))
  have H3 : (hNames3.map (fun p => Hd.fnFact K p.1) : List (Option (Arguments × List Stmt × Scope × Value))) = hNames3.map (fun p => some (defArgs (top p.2),defBody (top p.2),defScope (top p.2),.none)) := (congrArg Prod.fst (congrArg Prod.snd (congrArg Prod.snd (congrArg Prod.snd FK))))
  have H4 : (hNamesD.map (fun p => Hd.fnFactD K p.1) : List (Option (Arguments × List Stmt × Scope × List V))) = hNamesD.map (fun p => some (defArgs (top p.2.1),defBody (top p.2.1),defScope (top p.2.1),p.2.2)) := (congrArg Prod.fst (congrArg Prod.snd (congrArg Prod.snd (congrArg Prod.snd (congrArg Prod.snd FK)))))
  have H5 : (hExc.all (Hd.excFact K) : Bool) = true := (congrArg Prod.fst (congrArg Prod.snd (congrArg Prod.snd (congrArg Prod.snd (congrArg Prod.snd (congrArg Prod.snd FK))))))
  have H6 : (hNo.all (Hd.noFact K) : Bool) = true := (congrArg Prod.fst (congrArg Prod.snd (congrArg Prod.snd (congrArg Prod.snd (congrArg Prod.snd (congrArg Prod.snd (congrArg Prod.snd FK)))))))
  have H7 : (hTup.map (fun p => Hd.tupFact K p.1) : List (Option (List V))) = hTup.map (fun p => some p.2) := (congrArg Prod.fst (congrArg Prod.snd (congrArg Prod.snd (congrArg Prod.snd (congrArg Prod.snd (congrArg Prod.snd (congrArg Prod.snd (congrArg Prod.snd FK))))))))
  have H8 : (hNamesA.map (fun p => Hd.fnFactA K p.1 p.2.1) : List (Option (Arguments × List Stmt × Scope × Value))) = hNamesA.map (fun p => some (defArgs (top p.2.2),defBody (top p.2.2),defScope (top p.2.2),.none)) := (congrArg Prod.snd (congrArg Prod.snd (congrArg Prod.snd (congrArg Prod.snd (congrArg Prod.snd (congrArg Prod.snd (congrArg Prod.snd (congrArg Prod.snd FK))))))))
  have D_is_whole : Df K mg "is_whole" (top 8) := Hd.df_of X G (Hd.at_map H0 0 rfl)
  have D_common_divisor : Df K mg "common_divisor" (top 9) := Hd.df_of X G (Hd.at_map H0 1 rfl)
  have D_plus : Df K mg "plus" (top 11) := Hd.df_of X G (Hd.at_map H0 2 rfl)
  have D_minus : Df K mg "minus" (top 12) := Hd.df_of X G (Hd.at_map H0 3 rfl)
  have D_times : Df K mg "times" (top 13) := Hd.df_of X G (Hd.at_map H0 4 rfl)
  have D_over : Df K mg "over" (top 14) := Hd.df_of X G (Hd.at_map H0 5 rfl)
  have D_less : Df K mg "less" (top 15) := Hd.df_of X G (Hd.at_map H0 6 rfl)
  have D_floor_of : Df K mg "floor_of" (top 16) := Hd.df_of X G (Hd.at_map H0 7 rfl)
  have D_number_of_least : Df K mg "number_of_least" (top 17) := Hd.df_of X G (Hd.at_map H0 8 rfl)
  have D_number_of_greatest : Df K mg "number_of_greatest" (top 18) := Hd.df_of X G (Hd.at_map H0 9 rfl)
  have D_is_ratio : Df K mg "is_ratio" (top 19) := Hd.df_of X G (Hd.at_map H0 10 rfl)
  have D_last_of : Df K mg "last_of" (top 21) := Hd.df_of X G (Hd.at_map H0 11 rfl)
  have D_is_place : Df K mg "is_place" (top 23) := Hd.df_of X G (Hd.at_map H0 12 rfl)
  have D_look_at_place : Df K mg "look_at_place" (top 24) := Hd.df_of X G (Hd.at_map H0 13 rfl)
  have D_is_pair : Df K mg "is_pair" (top 25) := Hd.df_of X G (Hd.at_map H0 14 rfl)
  have D_are_pairs : Df K mg "are_pairs" (top 26) := Hd.df_of X G (Hd.at_map H0 15 rfl)
  have D_number_at : Df K mg "number_at" (top 27) := Hd.df_of X G (Hd.at_map H0 16 rfl)
  have D_point_at : Df K mg "point_at" (top 28) := Hd.df_of X G (Hd.at_map H0 17 rfl)
  have D_share_a_stretch : Df K mg "share_a_stretch" (top 29) := Hd.df_of X G (Hd.at_map H1 0 rfl)
  have D_step_from : Df K mg "step_from" (top 30) := Hd.df_of X G (Hd.at_map H1 1 rfl)
  have D_inner_product : Df K mg "inner_product" (top 31) := Hd.df_of X G (Hd.at_map H1 2 rfl)
  have D_square_between : Df K mg "square_between" (top 32) := Hd.df_of X G (Hd.at_map H1 3 rfl)
  have D_square_of : Df K mg "square_of" (top 33) := Hd.df_of X G (Hd.at_map H1 4 rfl)
  have D_nearest_part : Df K mg "nearest_part" (top 34) := Hd.df_of X G (Hd.at_map H1 5 rfl)
  have D_least_along : Df K mg "least_along" (top 35) := Hd.df_of X G (Hd.at_map H1 6 rfl)
  have D_look_at_way : Df K mg "look_at_way" (top 38) := Hd.df_of X G (Hd.at_map H1 7 rfl)
  have D_goes_on : Df K mg "goes_on" (top 42) := Hd.df_of X G (Hd.at_map H1 8 rfl)
  have D_goes_freely : Df K mg "goes_freely" (top 43) := Hd.df_of X G (Hd.at_map H1 9 rfl)
  have D_hops : Df K mg "hops" (top 44) := Hd.df_of X G (Hd.at_map H1 10 rfl)
  have D_steps_back : Df K mg "steps_back" (top 54) := Hd.df_of X G (Hd.at_map H1 11 rfl)
  have D_keeps_corner : Df K mg "keeps_corner" (top 55) := Hd.df_of X G (Hd.at_map H1 12 rfl)
  have D_slides : Df K mg "slides" (top 56) := Hd.df_of X G (Hd.at_map H1 13 rfl)
  have D_has_whole_places : Df K mg "has_whole_places" (top 57) := Hd.df_of X G (Hd.at_map H1 14 rfl)
  have D_hops_aside : Df K mg "hops_aside" (top 58) := Hd.df_of X G (Hd.at_map H1 15 rfl)
  have D_is_measured_between : Df K mg "is_measured_between" (top 64) := Hd.df_of X G (Hd.at_map H1 16 rfl)
  have D_least_between : Df K mg "least_between" (top 65) := Hd.df_of X G (Hd.at_map H1 17 rfl)
  have D_slide_square : Df K mg "slide_square" (top 66) := Hd.df_of X G (Hd.at_map H2 0 rfl)
  have D_measured_squares : Df K mg "measured_squares" (top 67) := Hd.df_of X G (Hd.at_map H2 1 rfl)
  have D_law_cell_at : Df K mg "_law_cell_at" (top 70) := Hd.df_of X G (Hd.at_map H2 2 rfl)
  have D_law_folded : Df K mg "_law_folded" (top 71) := Hd.df_of X G (Hd.at_map H2 3 rfl)
  have D_law_begun : Df K mg "_law_begun" (top 72) := Hd.df_of X G (Hd.at_map H2 4 rfl)
  have D_law_take : Df K mg "_law_take" (top 73) := Hd.df_of X G (Hd.at_map H2 5 rfl)
  have D_law_wide : Df K mg "_law_wide" (top 74) := Hd.df_of X G (Hd.at_map H2 6 rfl)
  have D_law_drawn_line : Df K mg "_law_drawn_line" (top 75) := Hd.df_of X G (Hd.at_map H2 7 rfl)
  have D_law_moved : Df K mg "_law_moved" (top 76) := Hd.df_of X G (Hd.at_map H2 8 rfl)
  have D_law_drawn_other : Df K mg "_law_drawn_other" (top 77) := Hd.df_of X G (Hd.at_map H2 9 rfl)
  have D_law_lines : Df K mg "_law_lines" (top 78) := Hd.df_of X G (Hd.at_map H2 10 rfl)
  have D_law_divisor : Df K mg "_law_divisor" (top 79) := Hd.df_of X G (Hd.at_map H2 11 rfl)
  have D_law_ratio : Df K mg "_law_ratio" (top 80) := Hd.df_of X G (Hd.at_map H2 12 rfl)
  have D_law_below : Df K mg "_law_below" (top 81) := Hd.df_of X G (Hd.at_map H2 13 rfl)
  have D_law_lesser : Df K mg "_law_lesser" (top 82) := Hd.df_of X G (Hd.at_map H2 14 rfl)
  have D_law_greater : Df K mg "_law_greater" (top 83) := Hd.df_of X G (Hd.at_map H2 15 rfl)
  have D_law_spot_on : Df K mg "_law_spot_on" (top 84) := Hd.df_of X G (Hd.at_map H2 16 rfl)
  have D_law_any : Df K mg "_law_any" (top 85) := Hd.df_of X G (Hd.at_map H2 17 rfl)
  have D_law_ahead : Df K mg "_law_ahead" (top 86) := Hd.df_of X G (Hd.at_map H3 0 rfl)
  have D_law_home : Df K mg "_law_home" (top 87) := Hd.df_of X G (Hd.at_map H3 1 rfl)
  have D_law_drawn_walk : Df K mg "_law_drawn_walk" (top 88) := Hd.df_of X G (Hd.at_map H3 2 rfl)
  have D_law_down : Df K mg "_law_down" (top 89) := Hd.df_of X G (Hd.at_map H3 3 rfl)
  have D_law_over : Df K mg "_law_over" (top 90) := Hd.df_of X G (Hd.at_map H3 4 rfl)
  have D_law_next : Df K mg "_law_next" (top 91) := Hd.df_of X G (Hd.at_map H3 5 rfl)
  have D_law_ended : Df K mg "_law_ended" (top 92) := Hd.df_of X G (Hd.at_map H3 6 rfl)
  have D_law_drawn_fence : Df K mg "_law_drawn_fence" (top 93) := Hd.df_of X G (Hd.at_map H3 7 rfl)
  have D_law_drawn_way : Df K mg "_law_drawn_way" (top 94) := Hd.df_of X G (Hd.at_map H3 8 rfl)
  have D_law_across : Df K mg "_law_across" (top 95) := Hd.df_of X G (Hd.at_map H3 9 rfl)
  have D_law_from_end : Df K mg "_law_from_end" (top 96) := Hd.df_of X G (Hd.at_map H3 10 rfl)
  have D_law_further : Df K mg "_law_further" (top 97) := Hd.df_of X G (Hd.at_map H3 11 rfl)
  have D_law_walks_alike : Df K mg "_law_walks_alike" (top 98) := Hd.df_of X G (Hd.at_map H3 12 rfl)
  have D_law_fences_alike : Df K mg "_law_fences_alike" (top 99) := Hd.df_of X G (Hd.at_map H3 13 rfl)
  have D_law_right : Df K mg "_law_right" (top 100) := Hd.df_of X G (Hd.at_map H3 14 rfl)
  have D_law : Df K mg "law" (top 101) := Hd.df_of X G (Hd.at_map H3 15 rfl)
  have D_has_right_ends_walks : DfA K mg "has_right_ends_walks" "has_right_ends" (top 40) := Hd.dfa_of X G (Hd.at_map H8 0 rfl)
  have D_may_step_walks : DfA K mg "may_step_walks" "may_step" (top 45) := Hd.dfa_of X G (Hd.at_map H8 1 rfl)
  have D_has_right_steps_walks : DfA K mg "has_right_steps_walks" "has_right_steps" (top 47) := Hd.dfa_of X G (Hd.at_map H8 2 rfl)
  have D_has_right_ends_fences : DfA K mg "has_right_ends_fences" "has_right_ends" (top 52) := Hd.dfa_of X G (Hd.at_map H8 3 rfl)
  have D_may_step_fences : DfA K mg "may_step_fences" "may_step" (top 59) := Hd.dfa_of X G (Hd.at_map H8 4 rfl)
  have D_has_right_steps_fences : DfA K mg "has_right_steps_fences" "has_right_steps" (top 61) := Hd.dfa_of X G (Hd.at_map H8 5 rfl)
  have D_ratio : DfD K mg "ratio" (top 10) [.int 1] := Hd.dfd_of X G (Hd.at_map H4 0 rfl)
  have D_is_walk : DfD K mg "is_walk" (top 49) [.str "on"] := Hd.dfd_of X G (Hd.at_map H4 1 rfl)
  have D_walk_square : DfD K mg "walk_square" (top 50) [.str "on"] := Hd.dfd_of X G (Hd.at_map H4 2 rfl)
  have D_is_fence : DfD K mg "is_fence" (top 63) [.str "on"] := Hd.dfd_of X G (Hd.at_map H4 3 rfl)
  have D_fence_square : DfD K mg "fence_square" (top 68) [.str "on"] := Hd.dfd_of X G (Hd.at_map H4 4 rfl)
  have O_NoRatio : ExcC K mg "NoRatio" (Hd.cls K "NoRatio") := Hd.exc_of X G (Hd.at_all H5 0 rfl)
  have O_NoWay : ExcC K mg "NoWay" (Hd.cls K "NoWay") := Hd.exc_of X G (Hd.at_all H5 1 rfl)
  have O_NoWalk : ExcC K mg "NoWalk" (Hd.cls K "NoWalk") := Hd.exc_of X G (Hd.at_all H5 2 rfl)
  have O_NoFence : ExcC K mg "NoFence" (Hd.cls K "NoFence") := Hd.exc_of X G (Hd.at_all H5 3 rfl)
  have O_NoPlace : ExcC K mg "NoPlace" (Hd.cls K "NoPlace") := Hd.exc_of X G (Hd.at_all H5 4 rfl)
  have O_LeashError : ExcC K mg "LeashError" (Hd.cls K "LeashError") := Hd.exc_of X G (Hd.at_all H5 5 rfl)
  have T : Txt mg := ⟨PySem.W.mg_none_of X G (Hd.no_of (Hd.at_all H6 0 rfl)),PySem.W.mg_none_of X G (Hd.no_of (Hd.at_all H6 1 rfl)),PySem.W.mg_none_of X G (Hd.no_of (Hd.at_all H6 2 rfl)),PySem.W.mg_none_of X G (Hd.no_of (Hd.at_all H6 3 rfl)),PySem.W.mg_none_of X G (Hd.no_of (Hd.at_all H6 4 rfl)),PySem.W.mg_none_of X G (Hd.no_of (Hd.at_all H6 5 rfl)),PySem.W.mg_none_of X G (Hd.no_of (Hd.at_all H6 6 rfl)),PySem.W.mg_none_of X G (Hd.no_of (Hd.at_all H6 7 rfl)),PySem.W.mg_none_of X G (Hd.no_of (Hd.at_all H6 8 rfl)),PySem.W.mg_none_of X G (Hd.no_of (Hd.at_all H6 9 rfl)),PySem.W.mg_none_of X G (Hd.no_of (Hd.at_all H6 10 rfl)),PySem.W.mg_none_of X G (Hd.no_of (Hd.at_all H6 11 rfl)),PySem.W.mg_none_of X G (Hd.no_of (Hd.at_all H6 12 rfl)),PySem.W.mg_none_of X G (Hd.no_of (Hd.at_all H6 13 rfl)),PySem.W.mg_none_of X G (Hd.no_of (Hd.at_all H6 14 rfl))⟩
  obtain ⟨p_WAYS,od_WAYS,its_WAYS,n_WAYS,sl_WAYS,v_WAYS,w_WAYS,u_WAYS⟩ := Hd.tup_of (Hd.at_map H7 0 rfl)
  refine law_fd h hfa fun base => ?_
  have hW : ∀ H,SqT K H p_WAYS [.str wOn,.str wPart,.str wFree,.str wHops] := fun H => SqT.mod w_WAYS rfl (Hd.vals_sz u_WAYS (by decide)) u_WAYS
  have F_is_whole := fn_is_whole (P := P) (w := w) (base := base) D_is_whole T
  have F_common_divisor := fn_common_divisor (P := P) (w := w) (base := base) D_common_divisor T
  have F_ratio := fn_ratio (P := P) (w := w) (base := base) D_ratio O_NoRatio F_is_whole F_common_divisor
  have F_floor_of := fn_floor_of (P := P) (w := w) (base := base) D_floor_of
  have F_is_ratio := fn_is_ratio (P := P) (w := w) (base := base) D_is_ratio F_is_whole F_common_divisor T
  have F_last_of := fn_last_of (P := P) (w := w) (base := base) D_last_of T
  have F_is_place := fn_is_place (P := P) (w := w) (base := base) D_is_place F_is_ratio F_last_of
  have F_look_at_place := fn_look_at_place (P := P) (w := w) (base := base) D_look_at_place O_NoPlace F_is_place
  have F_plus := fn_plus (P := P) (w := w) (base := base) D_plus F_ratio
  have F_minus := fn_minus (P := P) (w := w) (base := base) D_minus F_ratio
  have F_times := fn_times (P := P) (w := w) (base := base) D_times F_ratio
  have F_over := fn_over (P := P) (w := w) (base := base) D_over F_ratio
  have F_less := fn_less (P := P) (w := w) (base := base) D_less
  have F_number_at := fn_number_at (P := P) (w := w) (base := base) D_number_at F_ratio
  have F_point_at := fn_point_at (P := P) (w := w) (base := base) D_point_at F_look_at_place F_floor_of F_last_of F_number_at T
  have F_step_from := fn_step_from (P := P) (w := w) (base := base) D_step_from F_minus
  have F_inner_product := fn_inner_product (P := P) (w := w) (base := base) D_inner_product F_plus F_times
  have F_square_between := fn_square_between (P := P) (w := w) (base := base) D_square_between F_step_from F_inner_product
  have F_square_of := fn_square_of (P := P) (w := w) (base := base) D_square_of F_square_between F_point_at
  have F_share_a_stretch := fn_share_a_stretch (P := P) (w := w) (base := base) D_share_a_stretch (less_weak F_less) F_floor_of (ratio_weak F_ratio)
  have F_nearest_part := fn_nearest_part (P := P) (w := w) (base := base) D_nearest_part F_step_from F_inner_product F_over F_less
  have F_least_along := fn_least_along (P := P) (w := w) (base := base) D_least_along F_point_at F_nearest_part F_plus F_times F_minus F_square_between
  have F_law_cell_at := fn_law_cell_at (P := P) (w := w) (base := base) D_law_cell_at T
  have F_law_begun := fn_law_begun (P := P) (w := w) (base := base) D_law_begun T
  have F_law_take := fn_law_take (P := P) (w := w) (base := base) D_law_take
  have F_law_wide := fn_law_wide (P := P) (w := w) (base := base) D_law_wide F_law_take T
  have F_law_drawn_line := fn_law_drawn_line (P := P) (w := w) (base := base) D_law_drawn_line F_law_take F_law_wide T
  have F_look_at_way := fn_look_at_way (P := P) (w := w) (base := base) D_look_at_way O_NoWay (PySem.W.mg_of X G v_WAYS) hW T
  have F_is_pair := fn_is_pair (P := P) (w := w) (base := base) D_is_pair F_is_place T
  have F_are_pairs := fn_are_pairs (P := P) (w := w) (base := base) D_are_pairs F_is_pair T
  have F_has_right_ends_walks := fn_has_right_ends_walks (P := P) (w := w) (base := base) D_has_right_ends_walks F_last_of
  have F_goes_on := fn_goes_on (P := P) (w := w) (base := base) D_goes_on (less_weak F_less) F_share_a_stretch
  have F_goes_freely := fn_goes_freely (P := P) (w := w) (base := base) D_goes_freely F_share_a_stretch
  have F_hops := fn_hops (P := P) (w := w) (base := base) D_hops
  have F_may_step_walks := fn_may_step_walks (P := P) (w := w) (base := base) D_may_step_walks F_hops F_goes_freely F_goes_on
  have F_has_right_steps_walks := fn_has_right_steps_walks (P := P) (w := w) (base := base) D_has_right_steps_walks F_may_step_walks T
  have F_is_walk := fn_is_walk (P := P) (w := w) (base := base) D_is_walk F_look_at_way F_are_pairs F_has_right_ends_walks F_has_right_steps_walks
  have F_has_right_ends_fences := fn_has_right_ends_fences (P := P) (w := w) (base := base) D_has_right_ends_fences F_last_of
  have F_steps_back := fn_steps_back (P := P) (w := w) (base := base) D_steps_back (less_weak F_less)
  have F_keeps_corner := fn_keeps_corner (P := P) (w := w) (base := base) D_keeps_corner F_share_a_stretch
  have F_slides := fn_slides (P := P) (w := w) (base := base) D_slides F_keeps_corner
  have F_has_whole_places := fn_has_whole_places (P := P) (w := w) (base := base) D_has_whole_places
  have F_hops_aside := fn_hops_aside (P := P) (w := w) (base := base) D_hops_aside
  have F_may_step_fences := fn_may_step_fences (P := P) (w := w) (base := base) D_may_step_fences F_hops_aside F_slides F_steps_back
  have F_has_right_steps_fences := fn_has_right_steps_fences (P := P) (w := w) (base := base) D_has_right_steps_fences F_may_step_fences T
  have F_is_fence := fn_is_fence (P := P) (w := w) (base := base) D_is_fence F_look_at_way F_are_pairs F_has_whole_places F_has_right_ends_fences F_has_right_steps_fences T
  have F_law_moved := fn_law_moved (P := P) (w := w) (base := base) D_law_moved F_law_take T
  have F_law_drawn_other := fn_law_drawn_other (P := P) (w := w) (base := base) D_law_drawn_other F_law_take F_law_moved F_law_drawn_line T
  have F_law_lines := fn_law_lines (P := P) (w := w) (base := base) D_law_lines F_law_cell_at F_law_begun F_law_drawn_line F_law_drawn_other
  have F_law_divisor := fn_law_divisor (P := P) (w := w) (base := base) D_law_divisor T
  have F_law_ratio := fn_law_ratio (P := P) (w := w) (base := base) D_law_ratio F_law_divisor
  have F_law_below := fn_law_below (P := P) (w := w) (base := base) D_law_below
  have F_law_spot_on := fn_law_spot_on (P := P) (w := w) (base := base) D_law_spot_on F_law_take F_law_wide F_law_ratio
  have F_law_any := fn_law_any (P := P) (w := w) (base := base) D_law_any F_law_take F_law_spot_on
  have F_law_ahead := fn_law_ahead (P := P) (w := w) (base := base) D_law_ahead F_law_take F_law_spot_on F_law_below
  have F_law_home := fn_law_home (P := P) (w := w) (base := base) D_law_home T
  have F_law_drawn_walk := fn_law_drawn_walk (P := P) (w := w) (base := base) D_law_drawn_walk F_law_take F_law_any F_law_ahead F_law_home T
  have F_law_lesser := fn_law_lesser (P := P) (w := w) (base := base) D_law_lesser F_law_below
  have F_law_greater := fn_law_greater (P := P) (w := w) (base := base) D_law_greater F_law_below
  have F_law_down := fn_law_down (P := P) (w := w) (base := base) D_law_down F_law_take F_law_spot_on F_law_below T
  have F_law_over := fn_law_over (P := P) (w := w) (base := base) D_law_over F_law_take F_law_spot_on F_law_below T
  have F_law_next := fn_law_next (P := P) (w := w) (base := base) D_law_next F_law_take F_law_any F_law_lesser F_law_greater F_law_down F_law_over
  have F_law_ended := fn_law_ended (P := P) (w := w) (base := base) D_law_ended T
  have F_law_drawn_fence := fn_law_drawn_fence (P := P) (w := w) (base := base) D_law_drawn_fence F_law_take F_law_any F_law_next F_law_ended T
  have F_law_drawn_way := fn_law_drawn_way (P := P) (w := w) (base := base) D_law_drawn_way F_law_take
  have F_law_folded := fn_law_folded (P := P) (w := w) (base := base) D_law_folded T
  have F_number_of_least := fn_number_of_least (P := P) (w := w) (base := base) D_number_of_least F_less T
  have F_is_measured_between := fn_is_measured_between (P := P) (w := w) (base := base) D_is_measured_between F_steps_back
  have F_least_between := fn_least_between (P := P) (w := w) (base := base) D_least_between F_less F_least_along
  have F_slide_square := fn_slide_square (P := P) (w := w) (base := base) D_slide_square F_keeps_corner F_least_between
  have F_measured_squares := fn_measured_squares (P := P) (w := w) (base := base) D_measured_squares F_square_of F_is_measured_between F_slide_square T
  have F_fence_square := fn_fence_square (P := P) (w := w) (base := base) D_fence_square O_NoFence F_is_fence F_measured_squares F_number_of_least
  have F_number_of_greatest := fn_number_of_greatest (P := P) (w := w) (base := base) D_number_of_greatest F_number_of_least
  have F_walk_square := fn_walk_square (P := P) (w := w) (base := base) D_walk_square O_NoWalk F_is_walk F_square_of F_number_of_greatest
  have F_law_across := fn_law_across (P := P) (w := w) (base := base) D_law_across T
  have F_law_from_end := fn_law_from_end (P := P) (w := w) (base := base) D_law_from_end T
  have F_law_further := fn_law_further (P := P) (w := w) (base := base) D_law_further T
  have F_law_walks_alike := fn_law_walks_alike (P := P) (w := w) (base := base) D_law_walks_alike F_is_walk F_walk_square
  have F_law_fences_alike := fn_law_fences_alike (P := P) (w := w) (base := base) D_law_fences_alike F_is_fence F_fence_square
  have F_law_right := fn_law_right (P := P) (w := w) (base := base) D_law_right F_law_walks_alike F_law_fences_alike F_law_from_end F_law_further F_law_across T
  exact fn_law D_law F_law_lines F_law_folded F_law_begun F_law_drawn_way F_law_drawn_walk F_law_drawn_fence F_law_right T
end K20
end
open PySem PySem.W PyProof.Rows
set_option maxRecDepth 100000 in
set_option maxHeartbeats 0 in
theorem PySem.Challenge.cw_oneleash_k20_whole_exchanged_and_turned_holds : PySem.Challenge.rw_oneleash_k20_whole_exchanged_and_turned.Holds := by
  w_on; o_law
  refine holds_open (q := K20.hView) (loose := K20.hLoose) (Xt := fun _ => true) (XP := fun _ _ => True) (Yf := Hook.obs (Hd.hook K20.hFacts K20.hGood)) (Ya := Hook.val (Hd.hook K20.hFacts K20.hGood)) (YP := Hook.says (Hd.hook K20.hFacts K20.hGood)) (N := 100000) K20.hLeft (Hook.of _) (Hook.keeps _) (fun _ _ => trivial) (fun _ _ _ _ _ => trivial) (by rfl) (by rfl) (by rfl) (fun _ _ => recFacts_nil rfl) (by rfl) (by first | assumption | decide +kernel) (by decide +kernel) ⟨rfl,rfl,rfl,rfl,rfl,by decide +kernel⟩ ?hw ?hc
  case hw => w_witness2
  exact Hd.law_walk (l := PySem.Challenge.rw_oneleash_k20_whole_exchanged_and_turned) (k := 13) ⟨rfl,by decide,by decide,rfl⟩ rfl rfl fun K FK w mg fa h KX G hmg => K20.all_of FK KX G hmg
