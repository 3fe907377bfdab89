import PyProof.Rows.All
import Wide.All
import OpenK.AllK
import Wide.FinOn
import Lean
import PyProof.EqAt
import PyProof.EqKinds
import PyProof.TupleCall
import PyProof.ExcArgsOwn
import KE.KTryMore
import PyProof.NsDelKeeps
import PyProof.ConsumeWalk
import PyProof.ZipIter
import PyProof.WalksEnum
import PyProof.EnumMake
import PyProof.NeKinds
import PyProof.CompMap
import PySem.Challenge.RW_oneleash_k02_no_fractions
section
set_option Elab.async false
set_option linter.all false
set_option maxRecDepth 100000
namespace L2
open PySem PySem.Spec PyProof.Rows
abbrev Key := Sum Int Str
def keyIs : Key → Value → Bool
  | .inl k,v => Value.isInt k v
  | .inr x,v => Value.isStrOf x v
def keyH (w : World) : Key → Int
  | .inl k => hashInt k
  | .inr x => hashStr w x
theorem keyIs_shape : ∀ {k : Key} {v : Value},keyIs k v = true → (∃ i t,k = Sum.inl i ∧ v = Value.int i t) ∨ (∃ x t,k = Sum.inr x ∧ v = Value.str x t)
  | .inl i,v,h => by
    obtain ⟨t,e⟩ := Value.isInt_shape (k := i) (v := v) h
    exact .inl ⟨i,t,rfl,e⟩
  | .inr x,v,h => by
    obtain ⟨t,e⟩ := Value.isStrOf_shape (x := x) (v := v) h
    exact .inr ⟨x,t,rfl,e⟩
theorem keyIs_int (i : Int) (t : Tok) : keyIs (.inl i) (.int i t) = true := by simp [keyIs,Value.isInt]
theorem keyIs_str (x : Str) (t : Tok) : keyIs (.inr x) (.str x t) = true := by simp [keyIs,Value.isStrOf]
theorem key_ll (a b : Int) : decide ((Sum.inl a : Key) = Sum.inl b) = (a == b) := by
  by_cases e : a = b
  · subst e; simp
  · have h : ¬ (Sum.inl a : Key) = Sum.inl b := fun q => e (Sum.inl.inj q)
    rw [decide_eq_false h]
    exact (beq_eq_false_iff_ne.mpr e).symm
theorem key_rr (a b : Str) : decide ((Sum.inr a : Key) = Sum.inr b) = decide (a = b) := by
  by_cases e : a = b
  · subst e; simp
  · have h : ¬ (Sum.inr a : Key) = Sum.inr b := fun q => e (Sum.inr.inj q)
    rw [decide_eq_false h,decide_eq_false e]
theorem key_lr (a : Int) (b : Str) : decide ((Sum.inl a : Key) = Sum.inr b) = false := decide_eq_false (fun q => nomatch q)
theorem key_rl (a : Str) (b : Int) : decide ((Sum.inr a : Key) = Sum.inl b) = false := decide_eq_false (fun q => nomatch q)
def mixKind (prog : Program) (w : World) : PySem.KeyKind prog w Key where
  is := keyIs
  hash := keyH w
  inj := fun v a b ha hb => by
    rcases keyIs_shape ha with ⟨i,t,rfl,rfl⟩ | ⟨x,t,rfl,rfl⟩
    · rcases keyIs_shape hb with ⟨j,u,rfl,e⟩ | ⟨y,u,rfl,e⟩
      · injection e with e1 _; rw [e1]
      · exact nomatch e
    · rcases keyIs_shape hb with ⟨j,u,rfl,e⟩ | ⟨y,u,rfl,e⟩
      · exact nomatch e
      · injection e with e1 _; rw [e1]
  byValue := fun k v h => by
    rcases keyIs_shape h with ⟨i,t,rfl,rfl⟩ | ⟨x,t,rfl,rfl⟩ <;> rfl
  pyHash := fun hv h => by
    rcases keyIs_shape hv with ⟨i,t,rfl,rfl⟩ | ⟨x,t,rfl,rfl⟩
    · exact wpAny_pyHash_int h
    · exact wpAny_pyHash_str h
  eqBool := fun hu hv h => by
    rcases keyIs_shape hu with ⟨i,t,rfl,rfl⟩ | ⟨x,t,rfl,rfl⟩
    · rcases keyIs_shape hv with ⟨j,u,rfl,rfl⟩ | ⟨y,u,rfl,rfl⟩
      · rw [key_ll] at h; exact wpAny_eqBool_int h
      · rw [key_lr] at h; exact SeqAt.EqAt.int_str i t y u _ _ _ _ h
    · rcases keyIs_shape hv with ⟨j,u,rfl,rfl⟩ | ⟨y,u,rfl,rfl⟩
      · rw [key_rl] at h; exact SeqAt.EqAt.str_int x t j u _ _ _ _ h
      · rw [key_rr] at h; exact wpAny_eqBool_str h
  «strs» := fun k x t v h => by
    rcases keyIs_shape h with ⟨i,u,rfl,e⟩ | ⟨y,u,rfl,e⟩
    · exact nomatch e
    · injection e with e1 _
      subst e1
      cases v <;> rfl
theorem mixKind_int (prog : Program) (w : World) (i : Int) (t : Tok) : (mixKind prog w).is (.inl i) (.int i t) = true := keyIs_int i t
theorem mixKind_str (prog : Program) (w : World) (x : Str) (t : Tok) : (mixKind prog w).is (.inr x) (.str x t) = true := keyIs_str x t
end L2
namespace L2
open PySem PySem.Spec PyProof.Rows
inductive V where
  | non | bl (b : Bool) | int (i : Int) | str (x : Str) | byt (b : Array UInt8) | flt (b : UInt64) | ref (a : Addr) | ty (n : String)
  deriving DecidableEq
def RelV : V → Value → Prop
  | .non,u => u = Value.none
  | .bl b,u => u = Value.bool b
  | .int i,u => ∃ t,u = Value.int i t
  | .str x,u => ∃ t,u = Value.str x t
  | .byt b,u => ∃ t,u = Value.bytes b t
  | .flt b,u => ∃ t,u = Value.float b t
  | .ref a,u => u = Value.ref a
  | .ty n,u => u = Value.type n
abbrev Vals : List V → List Value → Prop := Paired RelV
theorem Vals.length {xs : List V} {us : List Value} (r : Vals xs us) : xs.length = us.length := Paired.length r
theorem Vals.get : ∀ {xs : List V} {us : List Value} {i : Nat} {x : V},Vals xs us → xs[i]? = some x → ∃ u,us[i]? = some u ∧ RelV x u
  | _,_,_,_,.nil,e => by simp at e
  | _,_,0,_,.cons r _,e => by simp at e; subst e; exact ⟨_,rfl,r⟩
  | _,_,i + 1,x,.cons _ t,e => by
    obtain ⟨u,h1,h2⟩ := Vals.get (i := i) (x := x) t (by simpa using e)
    exact ⟨u,by simpa using h1,h2⟩
theorem Vals.append : ∀ {xs ys : List V} {us ws : List Value},Vals xs us → Vals ys ws → Vals (xs ++ ys) (us ++ ws)
  | _,_,_,_,.nil,s => s
  | _,_,_,_,.cons r t,s => .cons r (Vals.append t s)
theorem Vals.take : ∀ {xs : List V} {us : List Value} (n : Nat),Vals xs us → Vals (xs.take n) (us.take n)
  | _,_,0,_ => .nil
  | _,_,_ + 1,.nil => .nil
  | _,_,n + 1,.cons r t => .cons r (Vals.take n t)
theorem Vals.drop : ∀ {xs : List V} {us : List Value} (n : Nat),Vals xs us → Vals (xs.drop n) (us.drop n)
  | _,_,0,r => r
  | _,_,_ + 1,.nil => .nil
  | _,_,n + 1,.cons _ t => Vals.drop n t
def RelO : Option V → Option Value → Prop
  | some v,some u => RelV v u
  | none,none => True
  | _,_ => False
def KV {κ : Type} : List (κ × V) → List (κ × Value) → Prop := Paired fun (p : κ × V) (q : κ × Value) => p.1 = q.1 ∧ RelV p.2 q.2
def kV : Key → V
  | .inl i => .int i
  | .inr x => .str x
inductive HO where
  /-- a list -/
  | lst (xs : List V)
  /-- a tuple (never changes) -/
  | tup (xs : List V)
  /-- a dict whose keys are ints and texts; one whose keys are tuples of ints and texts (the empty one is both) -/
  | dK (kvs : List (Key × V)) | dT (kvs : List (List Key × V))
  /-- a set of ints: its members,its size -/
  | set (S : Int → Bool) (n : Nat)
  /-- an instance of the class at C,its dict at dx,its attributes -/
  | ins (C dx : Addr) (fs : List (Str × V))
  /-- the dict of the instance at x -/
  | own (x : Addr)
  /-- the dict of an exception -/
  | xd (fs : List (Str × V))
  /-- a bound method,f of x -/
  | met (f x : Addr)
  /-- a range object lo,lo + 1,.. below hi -/
  | rng (lo hi : Int)
  /-- a thing that is known to the object (the script; a dict while a loop walks it): read,never written while it is so -/
  | frz (o : Obj) (u : HO)
  /-- a code object's table -/
  | tbl (ps : Array Value)
  /-- any other thing,by what is true of its one object (a def of one's own: SetO a S n := HO.ext fun h => ..) -/
  | ext (φ : Heap → Prop)
abbrev Hp := Addr → Option HO
def upd (H : Hp) (a : Addr) (o : HO) : Hp := fun b => if b = a then some o else H b
theorem upd_same {H : Hp} {a : Addr} {o : HO} : upd H a o a = some o := by unfold upd; rw [if_pos rfl]
theorem upd_ne {H : Hp} {a b : Addr} {o : HO} (h : b ≠ a) : upd H a o b = H b := by unfold upd; rw [if_neg h]
theorem ne_of {H : Hp} {a b : Addr} {o u : HO} (h : H a = some o) (h' : H b = some u) (d : o ≠ u) : a ≠ b := by
  intro e; subst e; rw [h] at h'; exact d (Option.some.inj h')
theorem ne_of_none {H : Hp} {a b : Addr} {o : HO} (h : H a = some o) (h' : H b = none) : a ≠ b := by
  intro e; subst e; rw [h] at h'; cases h'
section
variable (P : Program) (w : World)
def ObjOk (H : Hp) (h : Heap) (a : Addr) : HO → Prop
  | .lst xs => xs.length ≤ sizeLine ∧ ∃ (its : List Value) (n : Nat),Vals xs its ∧ h.get? a = some { cls := .type "list",data := .seq its.toArray n }
  | .tup xs => xs.length ≤ sizeLine ∧ ∃ its : List Value,Vals xs its ∧ IsTup h a its.toArray
  | .dK kvs => kvs.length ≤ sizeLine ∧ (a == sysModules) = false ∧ ∃ vs,KV kvs vs ∧ h.DictOf (mixKind P w) a vs
  | .dT kvs => kvs.length ≤ sizeLine ∧ (a == sysModules) = false ∧ ∃ xs : List (List Key × Addr × Value),
      Paired (fun (p : List Key × V) (q : List Key × Addr × Value) => p.1 = q.1 ∧ H q.2.1 = some (.tup (p.1.map kV)) ∧ RelV p.2 q.2.2) kvs xs ∧
      ∃ o es ep,h.get? a = some o ∧ o.ExactDict ∧ o.data = .dict es ep ∧ es.toList = xs.map (entryOfKey (tupleKind (mixKind P w))) ∧ (xs.map (·.1)).Nodup
  | .set S n => h.SetOf (intKind P w) a S n
  | .ins C dx fs => H dx = some (.own a) ∧ fs.length ≤ 1000 ∧ dx ≠ a ∧ h.get? a = some (PySem.W.instObj C dx) ∧
      ∃ mA,h.Ns1 dx mA ∧ (∀ f,RelO (fs.lookup f) (mA f)) ∧ PySem.Within mA (fs.map (·.1))
  | .own _ => ∃ o,h.get? a = some o
  | .xd fs => ∃ mA,h.Ns1 a mA ∧ ∀ f,RelO (fs.lookup f) (mA f)
  | .rng lo hi => ∃ t u v,h.get? a = some { cls := .type "range",data := .fields #[.int lo t,.int hi u,.int 1 v] }
  | .frz o u => h.get? a = some o ∧ ObjOk H h a u
  | .tbl ps => h.get? a = some { cls := .none,data := .fields ps }
  | .met f x => h.get? a = some (PySem.W.methodObj (.ref f) (.ref x))
  | .ext φ => φ h ∧ (∃ o,h.get? a = some o) ∧ ∀ h1 h2 : Heap,φ h1 → (∀ o,h1.get? a = some o → h2.get? a = some o) → φ h2
def HOk (H : Hp) (h : Heap) : Prop := ∀ a o,H a = some o → ObjOk P w H h a o
end
section
variable {P : Program} {w : World} {H H' : Hp} {h h' : Heap} {a : Addr} {o : HO}
theorem ObjOk.lt (x : ObjOk P w H h a o) : a < h.objs.size := by
  cases o with
  | lst xs => obtain ⟨_,_,_,_,e⟩ := x; exact Heap.lt_size e
  | tup xs => obtain ⟨_,_,_,p⟩ := x; exact p.lt
  | dK kvs => obtain ⟨_,_,_,_,o,_,_,e,_⟩ := x; exact Heap.lt_size e
  | dT kvs => obtain ⟨_,_,_,_,o,_,_,e,_⟩ := x; exact Heap.lt_size e
  | set S n => obtain ⟨o,_,_,_,e,_⟩ := x; exact Heap.lt_size e
  | ins C dx fs => obtain ⟨_,_,_,e,_⟩ := x; exact Heap.lt_size e
  | own y => obtain ⟨_,e⟩ := x; exact Heap.lt_size e
  | xd fs => obtain ⟨_,⟨_,_,_,e,_⟩,_⟩ := x; exact Heap.lt_size e
  | rng lo hi => obtain ⟨_,_,_,e⟩ := x; exact Heap.lt_size e
  | frz ob u => obtain ⟨e,_⟩ := x; exact Heap.lt_size e
  | tbl ps => exact Heap.lt_size (show h.get? a = some _ from x)
  | met f y => exact Heap.lt_size (show h.get? a = some _ from x)
  | ext φ => obtain ⟨_,⟨_,e⟩,_⟩ := x; exact Heap.lt_size e
theorem Paired.mapP {α β : Type} {F G : α → β → Prop} : ∀ {l₁ : List α} {l₂ : List β},Paired F l₁ l₂ → (∀ a b,F a b → G a b) → Paired G l₁ l₂
  | _,_,.nil,_ => .nil
  | _,_,.cons r t,f => .cons (f _ _ r) (Paired.mapP t f)
theorem ObjOk.stay (x : ObjOk P w H h a o) (k : ∀ b u,(b = a ∨ H b = some (.own a)) → h.get? b = some u → h'.get? b = some u)
    (ho : ∀ b,H b = some (.own a) → H' b = some (.own a)) (ht : ∀ b xs,H b = some (.tup xs) → H' b = some (.tup xs)) : ObjOk P w H' h' a o := by
  induction o with
  | lst xs => obtain ⟨z,its,n,r,e⟩ := x; exact ⟨z,its,n,r,k _ _ (.inl rfl) e⟩
  | tup xs => obtain ⟨z,its,r,ob,e,c⟩ := x; exact ⟨z,its,r,ob,k _ _ (.inl rfl) e,c⟩
  | dK kvs => obtain ⟨z,y,vs,r,ob,es,ep,e,c⟩ := x; exact ⟨z,y,vs,r,ob,es,ep,k _ _ (.inl rfl) e,c⟩
  | dT kvs =>
    obtain ⟨z,y,xs,r,ob,es,ep,e,c⟩ := x
    exact ⟨z,y,xs,Paired.mapP r fun p q z => ⟨z.1,ht _ _ z.2.1,z.2.2⟩,ob,es,ep,k _ _ (.inl rfl) e,c⟩
  | set S n => obtain ⟨ob,es,ep,t,e,c⟩ := x; exact ⟨ob,es,ep,t,k _ _ (.inl rfl) e,c⟩
  | ins C dx fs =>
    obtain ⟨d,z,ne,e,mA,⟨od,es,ep,e2,c⟩,r⟩ := x
    exact ⟨ho _ d,z,ne,k _ _ (.inl rfl) e,mA,⟨od,es,ep,k _ _ (.inr d) e2,c⟩,r⟩
  | own y => obtain ⟨ob,e⟩ := x; exact ⟨ob,k _ _ (.inl rfl) e⟩
  | xd fs => obtain ⟨mA,⟨od,es,ep,e,c⟩,r⟩ := x; exact ⟨mA,⟨od,es,ep,k _ _ (.inl rfl) e,c⟩,r⟩
  | rng lo hi => obtain ⟨t,u,v,e⟩ := x; exact ⟨t,u,v,k _ _ (.inl rfl) e⟩
  | frz ob u ih => obtain ⟨e,q⟩ := x; exact ⟨k _ _ (.inl rfl) e,ih q⟩
  | tbl ps =>
    have e : h.get? a = some { cls := .none,data := .fields ps } := x
    show h'.get? a = some { cls := .none,data := .fields ps }
    exact k a _ (.inl rfl) e
  | met f y =>
    have e : h.get? a = some (PySem.W.methodObj (.ref f) (.ref y)) := x
    show h'.get? a = some (PySem.W.methodObj (.ref f) (.ref y))
    exact k a _ (.inl rfl) e
  | ext φ => obtain ⟨p,⟨o,e⟩,st⟩ := x; exact ⟨st _ _ p fun o q => k _ _ (.inl rfl) q,⟨o,k _ _ (.inl rfl) e⟩,st⟩
theorem HOk.lt (x : HOk P w H h) (e : H a = some o) : a < h.objs.size := (x a o e).lt
theorem HOk.fresh (x : HOk P w H h) (e : h.objs.size ≤ a) : H a = none := by
  cases q : H a with
  | none => rfl
  | some u => exact absurd (Nat.lt_of_lt_of_le (x.lt q) e) (Nat.lt_irrefl _)
theorem HOk.kept (x : HOk P w H h) (k : ∀ b u,h.get? b = some u → h'.get? b = some u) : HOk P w H h' := fun a o e =>
  (x a o e).stay (fun b u _ q => k b u q) (fun _ q => q) fun _ _ q => q
theorem HOk.laid (x : HOk P w H h) (k : ∀ b u,h.get? b = some u → h'.get? b = some u) (hp : h.objs.size ≤ a) (new : ObjOk P w (upd H a o) h' a o) : HOk P w (upd H a o) h' := fun b u e => by
  have hn := x.fresh hp
  by_cases hb : b = a
  · subst hb; rw [upd_same] at e; cases e; exact new
  · rw [upd_ne hb] at e
    exact (x b u e).stay (fun c v _ q => k c v q) (fun c q => by rw [upd_ne (ne_of_none q hn)]; exact q) fun c xs q => by rw [upd_ne (ne_of_none q hn)]; exact q
end
def Rd (H : Hp) (a : Addr) (u : HO) : Prop := H a = some u ∨ ∃ o,H a = some (.frz o u)
theorem Rd.ok {P : Program} {w : World} {H : Hp} {h : Heap} {a : Addr} {u : HO} (r : Rd H a u) (x : HOk P w H h) : ObjOk P w H h a u := by
  rcases r with r | ⟨o,r⟩
  · exact x a u r
  · obtain ⟨_,q⟩ := x a _ r
    exact q
def Mut : Option HO → Prop
  | some (.lst _) => True
  | some (.dK _) => True
  | some (.dT _) => True
  | some (.set _ _) => True
  | some (.ins _ _ _) => True
  | some (.ext _) => True
  | _ => False
section
variable {P : Program} {w : World} {H : Hp} {h h' : Heap} {x e : Addr} {o' : HO}
theorem HOk.write (ok : HOk P w H h) (mu : Mut (H x)) (he : e = x ∨ H e = some (.own x)) (k : ∀ b u,b ≠ e → h.get? b = some u → h'.get? b = some u) (heo : ∃ u,h'.get? e = some u)
    (new : ObjOk P w (upd H x o') h' x o') : HOk P w (upd H x o') h' := fun b u q => by
  have nown : ∀ c y,H c = some (.own y) → c ≠ x := fun c y r z => by subst z; rw [r] at mu; exact mu
  have ntup : ∀ c xs,H c = some (.tup xs) → c ≠ x := fun c xs r z => by subst z; rw [r] at mu; exact mu
  by_cases hb : b = x
  · subst hb; rw [upd_same] at q; cases q; exact new
  · rw [upd_ne hb] at q
    by_cases hbe : b = e
    · have q' : H b = some (.own x) := by
        rcases he with z | z
        · exact absurd (hbe.trans z) hb
        · rw [hbe]; exact z
      rw [q] at q'; cases q'
      obtain ⟨v,hv⟩ := heo
      exact ⟨v,by rw [hbe]; exact hv⟩
    · refine (ok b u q).stay (fun c v hc r => k c v ?_ r) (fun c r => by rw [upd_ne (nown c b r)]; exact r) fun c xs r => by rw [upd_ne (ntup c xs r)]; exact r
      rcases hc with rfl | hc
      · exact hbe
      · rintro rfl
        rcases he with z | z
        · exact nown c b hc z
        · rw [hc] at z; cases z; exact hb rfl
end
structure Un (fs ex : List Addr) (H H' : Hp) (h h' : Heap) : Prop where
  keep : ∀ b o,h.get? b = some o → H b = none → b ∉ fs → b ∉ ex → h'.get? b = some o
  slot : ∀ b o,h.get? b = some o → H b = none → b ∈ fs → b ∉ ex → ∃ sl,h'.get? b = some { o with slots := sl }
  free : ∀ b o,h.get? b = some o → H b = none → b ∉ ex → H' b = none
  there : ∀ b o,h.get? b = some o → b ∉ ex → ∃ o',h'.get? b = some o'
  tups : ∀ b xs,H b = some (.tup xs) → H' b = some (.tup xs)
  frzs : ∀ b o u,H b = some (.frz o u) → H' b = some (.frz o u)
  tbls : ∀ b ps,H b = some (.tbl ps) → ∃ more,H' b = some (.tbl (ps ++ more))
section
variable {fs fs' ex ex' : List Addr} {H H1 H2 : Hp} {h h1 h2 h' : Heap} {a x e : Addr} {o : HO}
theorem Un.any (u : Un fs ex H H1 h h1) {b : Addr} {ob : Obj} (q : h.get? b = some ob) (n : H b = none) (hx : b ∉ ex) : ∃ sl,h1.get? b = some { ob with slots := sl } := by
  by_cases hb : b ∈ fs
  · exact u.slot b ob q n hb hx
  · exact ⟨ob.slots,u.keep b ob q n hb hx⟩
theorem Un.kept (k : ∀ b u,h.get? b = some u → h'.get? b = some u) : Un fs ex H H h h' :=
  ⟨fun b ob q _ _ _ => k b ob q,fun b ob q _ _ _ => ⟨ob.slots,k b ob q⟩,fun _ _ _ n _ => n,fun b ob q _ => ⟨ob,k b ob q⟩,fun _ _ q => q,fun _ _ _ q => q,fun _ ps q => ⟨#[],by rw [q]; simp⟩⟩
theorem Un.refl : Un fs ex H H h h := Un.kept fun _ _ q => q
theorem Un.laid (k : ∀ b u,h.get? b = some u → h'.get? b = some u) (hp : h.objs.size ≤ a) (hn : H a = none) : Un fs ex H (upd H a o) h h' where
  keep := fun b u q _ _ _ => k b u q
  slot := fun b u q _ _ _ => ⟨u.slots,k b u q⟩
  free := fun b u q n _ => by rw [upd_ne (Nat.ne_of_lt (Nat.lt_of_lt_of_le (Heap.lt_size q) hp))]; exact n
  there := fun b u q _ => ⟨u,k b u q⟩
  tups := fun b xs q => by rw [upd_ne (ne_of_none q hn)]; exact q
  frzs := fun b u xs q => by rw [upd_ne (ne_of_none q hn)]; exact q
  tbls := fun b ps q => ⟨#[],by rw [upd_ne (ne_of_none q hn),q]; simp⟩
theorem Un.write (mu : Mut (H x)) (he : e = x ∨ H e = some (.own x)) (k : ∀ b u,b ≠ e → h.get? b = some u → h'.get? b = some u) (heo : ∃ u,h'.get? e = some u) : Un fs ex H (upd H x o) h h' := by
  have hx : ∀ b,H b = none → b ≠ x := fun b n z => by subst z; rw [n] at mu; exact mu
  have hb : ∀ b,H b = none → b ≠ e := fun b n z => by
    subst z
    rcases he with r | r
    · exact hx b n r
    · rw [n] at r; cases r
  have hm : ∀ b u,H b = some u → ¬ Mut (some u) → b ≠ x := fun b u q nm z => by subst z; rw [q] at mu; exact nm mu
  refine ⟨fun b u q n _ _ => k b u (hb b n) q,fun b u q n _ _ => ⟨u.slots,k b u (hb b n) q⟩,fun b u q n _ => by rw [upd_ne (hx b n)]; exact n,fun b u q _ => ?_,
    fun b xs q => by rw [upd_ne (hm b _ q fun z => z)]; exact q,fun b u xs q => by rw [upd_ne (hm b _ q fun z => z)]; exact q,fun b ps q => ⟨#[],by rw [upd_ne (hm b _ q fun z => z),q]; simp⟩⟩
  by_cases hbe : b = e
  · subst hbe; exact heo
  · exact ⟨u,k b u hbe q⟩
end
def trk (h : Heap) (H : Hp) : List Addr := (List.range h.objs.size).filter fun a => (H a).isSome
def hidT (h : Heap) (H : Hp) : Heap := PySem.W.hideAll h (trk h H)
theorem hidT_size (h : Heap) (H : Hp) : (hidT h H).objs.size = h.objs.size := PySem.W.hideAll_size _ _
theorem hidT_get {h : Heap} {H : Hp} {b : Addr} {o : Obj} (e : h.get? b = some o) (n : H b = none) : (hidT h H).get? b = some o :=
  PySem.W.hideAll_get _ e fun hm => by
    have q : (H b).isSome = true := (List.mem_filter.mp hm).2
    rw [n] at q; simp at q
theorem of_hidT {h : Heap} {H : Hp} {b : Addr} {o : Obj} (e : (hidT h H).get? b = some o) : h.get? b = some o ∧ H b = none := by
  have e' : h.get? b = some o := PySem.W.of_hideAll (trk h H) e
  refine ⟨e',?_⟩
  cases q : H b with
  | none => rfl
  | some x =>
    have hm : b ∈ trk h H := List.mem_filter.mpr ⟨List.mem_range.mpr (Heap.lt_size e'),by simp [q]⟩
    have z : (hidT h H).get? b = none := PySem.W.hideAll_none (trk h H) hm
    rw [z] at e; cases e
end L2
namespace L2
open PySem PySem.Spec PyProof.Rows
structure Mod (K : PySem.W.Frag) (mg : Str → Option Value) (base : Heap) : Prop where
  kin : K.In base
  glob : base.Ns mainGlobals mg
  blt : ∃ mb,base.Ns builtinsNs mb ∧ ∀ x : Str,x ≠ "__name__" → mb x = bootBuiltins x
  nolimit : base.NoLimit
structure Cx where
  prog : Program
  w : World
  K : PySem.W.Frag
  mg : Str → Option Value
  base : Heap
  A : Around
  N : List Str
  s₀ : Shared
  H₀ : Hp
  env : Env
  outer : List Env
  stack : List Env
  ex : List Addr
  fn : Str → Bool
  calm : Bool
  pn : List (Addr × Obj)
  xe : Value → Shared → Prop
def frs (l : List Env) : List Addr := l.filterMap (·.frame)
abbrev Cx.fs (X : Cx) : List Addr := frs X.outer
def Vis (sc : Scope) (x : Str) : Prop := sc.names.lookup x = some .local ∨ sc.names.lookup x = some .cell ∨ sc.names.lookup x = some .free
def Loc (sc : Scope) (x : Str) : Prop := sc.names.lookup x = some .local ∨ sc.names.lookup x = some .cell
def Look (env : Env) (h : Heap) (m : Str → Option Value) (x : Str) (u : Value) : Prop :=
  (env.kindOf x = some .local ∧ m x = some u) ∨ ((env.kindOf x = some .cell ∨ env.kindOf x = some .free) ∧ ∃ c,env.cells.lookup x = some c ∧ h.IsCell c (some u))
structure Cx.Ok (X : Cx) : Prop where
  mod : Mod X.K X.mg X.base
  kind : X.env.scope.kind = .function
  glob : X.env.globals = mainGlobals
  blt : X.env.builtins = builtinsNs
  above : X.s₀.heap.objs.size ≤ X.env.locals
  inj : ∀ x y c,X.env.cells.lookup x = some c → X.env.cells.lookup y = some c → x = y
  has : ∀ x,(X.env.kindOf x = some .cell ∨ X.env.kindOf x = some .free) → ∃ c,X.env.cells.lookup x = some c
  cab : ∀ x c,X.fn x = true → X.env.cells.lookup x = some c → X.s₀.heap.objs.size ≤ c
  hd : X.calm = true → X.A.handled = none
  frames : X.A.frames = some X.stack
  stk : X.stack = X.outer ∨ (X.stack = X.env :: X.outer ∧ X.env.frame = some X.env.locals)
  exf : ∀ b ∈ X.ex,b ≠ X.env.locals ∧ ∀ x c,X.env.cells.lookup x = some c → c ≠ b
  bs : ∀ b o,X.base.get? b = some o → X.s₀.heap.get? b = some o ∧ X.H₀ b = none
  bsz : X.base.objs.size ≤ X.s₀.heap.objs.size
  noex : ∀ b o,X.base.get? b = some o → b ∉ X.ex
  exfs : ∀ b ∈ X.ex,b ∉ X.fs
  funs : X.s₀.heap.FunFrames X.base X.outer
  frf : ∀ b ∈ X.fs,X.H₀ b = none
structure Inv (X : Cx) (pins : List (Addr × Obj)) (σ : List (Option V)) (H : Hp) (s : Shared) : Prop where
  ok : X.Ok
  os : s.os = X.s₀.os
  bare : AllBare s.gens
  base : Un X.fs X.ex X.H₀ H X.s₀.heap s.heap
  loc : ∃ m,s.heap.Ns X.env.locals m ∧ ∀ (i : Nat) (x : Str) (v : V),X.N[i]? = some x → σ[i]? = some (some v) → Vis X.env.scope x → ∃ u,RelV v u ∧ Look X.env s.heap m x u
  cell : ∀ x c,X.env.cells.lookup x = some c → ∃ v,s.heap.IsCell c v
  free : H X.env.locals = none
  freeC : ∀ x c,X.env.cells.lookup x = some c → H c = none
  pin : ∀ p ∈ X.pn ++ pins,s.heap.get? p.1 = some p.2 ∧ H p.1 = none ∧ p.1 ≠ X.env.locals ∧ p.1 ∉ X.fs ∧ ∀ v,p.2.data ≠ .cell v
  hok : HOk X.prog X.w H s.heap
  len : σ.length = X.N.length
section
variable {X : Cx} {pins : List (Addr × Obj)} {σ : List (Option V)} {H H' : Hp} {s : Shared} {h' : Heap}
theorem Cx.Ok.nofr (ok : X.Ok) {b : Addr} {o : Obj} (e : X.base.get? b = some o) : b ∉ X.fs := fun hb => by
  have := (ok.funs.mem hb).1
  rw [e] at this; cases this
theorem Inv.bs (I : Inv X pins σ H s) : ∀ b o,X.base.get? b = some o → s.heap.get? b = some o ∧ H b = none := fun b o e =>
  ⟨I.base.keep b o (I.ok.bs b o e).1 (I.ok.bs b o e).2 (I.ok.nofr e) (I.ok.noex b o e),I.base.free b o (I.ok.bs b o e).1 (I.ok.bs b o e).2 (I.ok.noex b o e)⟩
theorem Inv.bk (I : Inv X pins σ H s) : ∀ b o,X.base.get? b = some o → s.heap.get? b = some o := fun b o e => (I.bs b o e).1
theorem Inv.mod (I : Inv X pins σ H s) : Mod X.K X.mg X.base := I.ok.mod
theorem Inv.kIn (I : Inv X pins σ H s) : X.K.In s.heap := I.ok.mod.kin.keeps I.bk
theorem Inv.lt (I : Inv X pins σ H s) : X.env.locals < s.heap.objs.size := let ⟨_,hn,_⟩ := I.loc; hn.lt
theorem Inv.sz (I : Inv X pins σ H s) : X.s₀.heap.objs.size ≤ s.heap.objs.size := Nat.le_trans I.ok.above (Nat.le_of_lt I.lt)
theorem Inv.nofs (I : Inv X pins σ H s) {a : Addr} (h : s.heap.objs.size ≤ a) : a ∉ X.fs := fun hb => by
  obtain ⟨_,o,ho,_⟩ := I.ok.funs.mem hb
  exact absurd (Nat.lt_of_lt_of_le (Heap.lt_size ho) (Nat.le_trans I.sz h)) (Nat.lt_irrefl _)
theorem Inv.cne (I : Inv X pins σ H s) : ∀ x c,X.env.cells.lookup x = some c → c ≠ X.env.locals := fun x c e z => by
  obtain ⟨v,o,ho,hd⟩ := I.cell x c e
  obtain ⟨m,⟨o',es,ep,ho',hd',_⟩,_⟩ := I.loc
  rw [z,ho'] at ho; cases ho; rw [hd'] at hd; cases hd
theorem Inv.funs (I : Inv X pins σ H s) : s.heap.FunFrames X.base X.outer := by
  have all : ∀ (l : List Env),(∀ b ∈ frs l,b ∈ X.fs) → X.s₀.heap.FunFrames X.base l → s.heap.FunFrames X.base l := by
    intro l
    induction l with
    | nil => intro _ _; trivial
    | cons env r ih =>
      intro hs hl
      obtain ⟨hk,⟨L,o,hf,hn,ho,hd⟩,hr⟩ := hl
      have hL : L ∈ X.fs := hs L (by unfold frs; rw [List.filterMap_cons,hf]; exact List.mem_cons_self)
      obtain ⟨sl,e⟩ := I.base.slot L o ho (I.ok.frf L hL) hL fun z => I.ok.exfs L z hL
      exact ⟨hk,⟨L,_,hf,hn,e,hd⟩,ih (fun b hb => hs b (by unfold frs; rw [List.filterMap_cons,hf]; exact List.mem_cons_of_mem _ hb)) hr⟩
  exact all X.outer (fun _ hb => hb) I.ok.funs
theorem Inv.stack (I : Inv X pins σ H s) : s.heap.FunFrames X.base X.stack := by
  rcases I.ok.stk with e | ⟨e,hf⟩
  · rw [e]; exact I.funs
  · rw [e]
    obtain ⟨m,hn,_⟩ := I.loc
    refine .cons (by rw [I.ok.kind]; decide) hf hn ?_ I.funs
    exact Heap.get?_none_of_le (Nat.le_trans I.ok.bsz I.ok.above)
theorem Inv.stkSub (I : Inv X pins σ H s) : ∀ b ∈ frs X.stack,b ∈ X.env.locals :: X.fs := fun b hb => by
  rcases I.ok.stk with e | ⟨e,hf⟩
  · rw [e] at hb; exact List.mem_cons_of_mem _ hb
  · rw [e] at hb
    unfold frs at hb
    rw [List.filterMap_cons,hf] at hb
    exact hb
theorem Inv.stkFree (I : Inv X pins σ H s) : ∀ b ∈ frs X.stack,H b = none := fun b hb => by
  rcases List.mem_cons.mp (I.stkSub b hb) with e | hb
  · rw [e]; exact I.free
  · obtain ⟨_,o,ho,_⟩ := I.ok.funs.mem hb
    exact I.base.free b o ho (I.ok.frf b hb) fun z => I.ok.exfs b z hb
theorem Inv.step {g' : Array GenState} {t' : Nat} {d' : Drawn} {ch : List Addr} (I : Inv X pins σ H s)
    (hch : ∀ b ∈ ch,(b ∈ X.ex ∨ X.s₀.heap.objs.size ≤ b) ∧ b ≠ X.env.locals ∧ (∀ x c,X.env.cells.lookup x = some c → c ≠ b) ∧ ∀ p ∈ X.pn ++ pins,p.1 ≠ b)
    (keep : ∀ b o,b ≠ X.env.locals → b ∉ X.fs → b ∉ ch → s.heap.get? b = some o → H b = none → h'.get? b = some o)
    (slot : ∀ b o,b ≠ X.env.locals → b ∈ X.fs → b ∉ ch → s.heap.get? b = some o → H b = none → ∃ sl,h'.get? b = some { o with slots := sl }) (free : ∀ b o,b ∉ ch → s.heap.get? b = some o → H b = none → H' b = none)
    (there : ∀ b o,b ∉ ch → s.heap.get? b = some o → ∃ o',h'.get? b = some o')
    (tups : ∀ b xs,H b = some (.tup xs) → H' b = some (.tup xs)) (frzs : ∀ b o u,H b = some (.frz o u) → H' b = some (.frz o u)) (tbls : ∀ b ps,H b = some (.tbl ps) → ∃ more,H' b = some (.tbl (ps ++ more)))
    (ns : ∀ m,s.heap.Ns X.env.locals m → h'.Ns X.env.locals m) (hok : HOk X.prog X.w H' h') (hg : AllBare g') :
    Inv X pins σ H' { s with heap := h',gens := g',drawn := d',toks := t' } := by
  have neL : ∀ b o,X.s₀.heap.get? b = some o → b ≠ X.env.locals := fun b o e => Nat.ne_of_lt (Nat.lt_of_lt_of_le (Heap.lt_size e) I.ok.above)
  have neC : ∀ b o,X.s₀.heap.get? b = some o → b ∉ X.ex → b ∉ ch := fun b o e hx hb => by
    rcases (hch b hb).1 with z | z
    · exact hx z
    · exact absurd (Nat.lt_of_lt_of_le (Heap.lt_size e) z) (Nat.lt_irrefl _)
  have cellK : ∀ x c,X.env.cells.lookup x = some c → ∀ v,s.heap.IsCell c v → h'.IsCell c v := fun x c e v ⟨o,ho,hd⟩ => by
    have nch : c ∉ ch := fun z => (hch c z).2.2.1 x c e rfl
    by_cases hc : c ∈ X.fs
    · obtain ⟨sl,q⟩ := slot c o (I.cne x c e) hc nch ho (I.freeC x c e)
      exact ⟨_,q,hd⟩
    · exact ⟨o,keep c o (I.cne x c e) hc nch ho (I.freeC x c e),hd⟩
  refine ⟨I.ok,I.os,hg,⟨fun b o e n hb hx => ?_,fun b o e n hb hx => ?_,fun b o e n hx => ?_,fun b o e hx => ?_,fun b xs e => tups b xs (I.base.tups b xs e),fun b o xs e => frzs b o xs (I.base.frzs b o xs e),fun b ps e => ?_⟩,?_,fun x c e => ?_,?_,fun x c e => ?_,fun p hp => ?_,hok,I.len⟩
  · exact keep b o (neL b o e) hb (neC b o e hx) (I.base.keep b o e n hb hx) (I.base.free b o e n hx)
  · obtain ⟨sl,e1⟩ := I.base.slot b o e n hb hx
    obtain ⟨sl',e2⟩ := slot b _ (neL b o e) hb (neC b o e hx) e1 (I.base.free b o e n hx)
    exact ⟨sl',e2⟩
  · obtain ⟨o',e1⟩ := I.base.there b o e hx
    exact free b o' (neC b o e hx) e1 (I.base.free b o e n hx)
  · obtain ⟨o',e1⟩ := I.base.there b o e hx
    exact there b o' (neC b o e hx) e1
  · obtain ⟨m1,e1⟩ := I.base.tbls b ps e
    obtain ⟨m2,e2⟩ := tbls b _ e1
    exact ⟨m1 ++ m2,by rw [e2,Array.append_assoc]⟩
  · obtain ⟨m,hn,hl⟩ := I.loc
    refine ⟨m,ns m hn,fun i x v e1 e2 e3 => ?_⟩
    obtain ⟨u,r,l⟩ := hl i x v e1 e2 e3
    refine ⟨u,r,?_⟩
    rcases l with l | ⟨k,c,e,z⟩
    · exact .inl l
    · exact .inr ⟨k,c,e,cellK x c e _ z⟩
  · obtain ⟨v,z⟩ := I.cell x c e
    exact ⟨v,cellK x c e v z⟩
  · obtain ⟨m,⟨o,_,_,ho,_⟩,_⟩ := I.loc
    exact free _ o (fun z => (hch _ z).2.1 rfl) ho I.free
  · obtain ⟨v,o,ho,hd⟩ := I.cell x c e
    exact free c o (fun z => (hch c z).2.2.1 x c e rfl) ho (I.freeC x c e)
  · obtain ⟨e,n,ne,nf,d⟩ := I.pin p hp
    have nch : p.1 ∉ ch := fun z => (hch p.1 z).2.2.2 p hp rfl
    exact ⟨keep p.1 p.2 ne nf nch e n,free p.1 p.2 nch e n,ne,nf,d⟩
theorem Inv.un {t' : Nat} (I : Inv X pins σ H s) (u : Un X.fs [] H H' s.heap h') (hok : HOk X.prog X.w H' h') : Inv X pins σ H' { s with heap := h',toks := t' } := by
  obtain ⟨m,⟨o,es,ep,ho,r⟩,_⟩ := id I.loc
  obtain ⟨sl,hL⟩ := u.any ho I.free (by simp)
  exact I.step (g' := s.gens) (d' := s.drawn) (ch := []) (fun _ z => nomatch z) (fun b o _ hb _ e n => u.keep b o e n hb (by simp)) (fun b o _ hb _ e n => u.slot b o e n hb (by simp)) (fun b o _ e n => u.free b o e n (by simp)) (fun b o _ e => u.there b o e (by simp)) u.tups u.frzs u.tbls (fun m' hm => by
    obtain ⟨o',es',ep',ho',r'⟩ := hm
    rw [ho] at ho'; cases ho'
    exact ⟨_,es',ep',hL,r'⟩) hok I.bare
theorem Inv.call {g' : Array GenState} {t' : Nat} {d' : Drawn} {ch : List Addr} (I : Inv X pins σ H s) (u : Un (frs X.stack) ch H H' s.heap h') (hok : HOk X.prog X.w H' h') (hg : AllBare g')
    (hch : ∀ b ∈ ch,(b ∈ X.ex ∨ X.s₀.heap.objs.size ≤ b) ∧ b ≠ X.env.locals ∧ (∀ x c,X.env.cells.lookup x = some c → c ≠ b) ∧ ∀ p ∈ X.pn ++ pins,p.1 ≠ b) :
    Inv X pins σ H' { s with heap := h',gens := g',drawn := d',toks := t' } := by
  obtain ⟨m,⟨o,es,ep,ho,r⟩,_⟩ := id I.loc
  obtain ⟨sl,hL⟩ := u.any ho I.free fun z => (hch _ z).2.1 rfl
  exact I.step (ch := ch) hch (fun b o hL hb hc e n => u.keep b o e n (fun z => (List.mem_cons.mp (I.stkSub b z)).elim hL hb) hc) (fun b o _ _ hc e n => u.any e n hc) (fun b o hc e n => u.free b o e n hc) (fun b o hc e => u.there b o e hc) u.tups u.frzs u.tbls (fun m' hm => by
    obtain ⟨o',es',ep',ho',r'⟩ := hm
    rw [ho] at ho'; cases ho'
    exact ⟨_,es',ep',hL,r'⟩) hok hg
theorem Inv.turned {t' : Nat} {it : Addr} (I : Inv X pins σ H s) (k : ∀ b o,b ≠ it → s.heap.get? b = some o → h'.get? b = some o) (hn : H it = none) (hL : it ≠ X.env.locals)
    (h1 : it ∈ X.ex ∨ X.s₀.heap.objs.size ≤ it) (h2 : ∀ x c,X.env.cells.lookup x = some c → c ≠ it) (h3 : ∀ p ∈ X.pn ++ pins,p.1 ≠ it) : Inv X pins σ H { s with heap := h',toks := t' } := by
  have nit : ∀ b u,H b = some u → b ≠ it := fun b u e z => by rw [z,hn] at e; cases e
  refine I.step (g' := s.gens) (d' := s.drawn) (ch := [it]) (fun b hb => ?_) (fun b o _ _ hc e _ => k b o (fun z => hc (by simp [z])) e) (fun b o _ _ hc e _ => ⟨o.slots,k b o (fun z => hc (by simp [z])) e⟩) (fun _ _ _ _ n => n)
    (fun b o hc e => ⟨o,k b o (fun z => hc (by simp [z])) e⟩) (fun _ _ e => e) (fun _ _ _ e => e) (fun b ps e => ⟨#[],by rw [e]; simp⟩) (fun m hm => ?_) (fun b u e => ?_) I.bare
  · have e : b = it := by simpa using hb
    subst e
    exact ⟨h1,hL,h2,h3⟩
  · obtain ⟨o,es,ep,ho,r⟩ := hm
    exact ⟨o,es,ep,k _ o (Ne.symm hL) ho,r⟩
  · refine (I.hok b u e).stay (fun c v hc q => k c v ?_ q) (fun _ q => q) fun _ _ q => q
    rcases hc with z | z
    · rw [z]; exact nit b u e
    · exact nit c _ z
theorem Inv.tok (I : Inv X pins σ H s) (t : Nat) : Inv X pins σ H { s with toks := t } := I.un (h' := s.heap) (t' := t) Un.refl I.hok
theorem Inv.kept {t' : Nat} (I : Inv X pins σ H s) (k : ∀ b u,s.heap.get? b = some u → h'.get? b = some u) : Inv X pins σ H { s with heap := h',toks := t' } := I.un (Un.kept k) (I.hok.kept k)
theorem Inv.laid {a : Addr} {o : HO} {t' : Nat} (I : Inv X pins σ H s) (k : ∀ b u,s.heap.get? b = some u → h'.get? b = some u) (hp : s.heap.objs.size ≤ a) (new : ObjOk X.prog X.w (upd H a o) h' a o) :
    Inv X pins σ (upd H a o) { s with heap := h',toks := t' } := I.un (Un.laid k hp (I.hok.fresh hp)) (I.hok.laid k hp new)
theorem Inv.write {x e : Addr} {o : HO} {t' : Nat} (I : Inv X pins σ H s) (mu : Mut (H x)) (he : e = x ∨ H e = some (.own x)) (k : ∀ b u,b ≠ e → s.heap.get? b = some u → h'.get? b = some u) (heo : ∃ u,h'.get? e = some u)
    (new : ObjOk X.prog X.w (upd H x o) h' x o) : Inv X pins σ (upd H x o) { s with heap := h',toks := t' } := I.un (Un.write mu he k heo) (I.hok.write mu he k heo new)
theorem Inv.pins_of {pins' : List (Addr × Obj)} (I : Inv X pins σ H s) (h : ∀ p ∈ pins',s.heap.get? p.1 = some p.2 ∧ H p.1 = none ∧ p.1 ≠ X.env.locals ∧ p.1 ∉ X.fs ∧ ∀ v,p.2.data ≠ .cell v) : Inv X pins' σ H s :=
  ⟨I.ok,I.os,I.bare,I.base,I.loc,I.cell,I.free,I.freeC,fun p hp => (List.mem_append.mp hp).elim (fun z => I.pin p (List.mem_append_left _ z)) (h p),I.hok,I.len⟩
theorem nodup_ix {N : List Str} (hN : N.Nodup) {i j : Nat} {x : Str} (a : N[i]? = some x) (b : N[j]? = some x) : i = j := by
  obtain ⟨h1,e1⟩ := List.getElem?_eq_some_iff.mp a
  obtain ⟨h2,e2⟩ := List.getElem?_eq_some_iff.mp b
  exact (List.getElem_inj hN).mp (e1.trans e2.symm)
theorem store_ok2 {M : Model} {A : Around} {E : Value → Shared → Prop} {i : Nat} {x : Str} {v : V} {u : Value} {Q : Unit → Shared → Prop} (I : Inv X pins σ H s) (hN : X.N.Nodup) (hi : X.N[i]? = some x) (hx : Loc X.env.scope x) (r : RelV v u)
    (h : ∀ s',Inv X pins (σ.set i (some v)) H s' → (∃ a,Heap.SameBut a s.heap s'.heap ∧ (a = X.env.locals ∨ X.env.cells.lookup x = some a)) → Q () s') (hf : X.fn x = true ∨ X.env.scope.names.lookup x = some .local := by first | exact .inl rfl | exact .inr rfl | assumption) : wpAny M A (storeName X.env x u) Q E s := by
  obtain ⟨m,hn,hl⟩ := id I.loc
  have hcls : (X.env.scope.kind == .class || (X.env.scope.kind == .module && X.env.locals != X.env.globals)) = false := by rw [I.ok.kind]; rfl
  have hiσ : i < σ.length := by rw [I.len]; exact (List.getElem?_eq_some_iff.mp hi).1
  have cne := I.cne
  have tracked : ∀ {a : Addr} {h' : Heap},(∃ o,s.heap.get? a = some o ∧ H a = none) → Heap.SameBut a s.heap h' → HOk X.prog X.w H h' := fun {a h'} ha hs b ob e => by
    obtain ⟨_,_,hfree⟩ := ha
    refine (I.hok b ob e).stay (fun c w' hc q => (hs.2 c ?_).trans q) (fun _ q => q) fun _ _ q => q
    rintro rfl
    rcases hc with rfl | hc
    · rw [hfree] at e; cases e
    · rw [hfree] at hc; cases hc
  rcases hx with hk | hk
  · refine wpAny_storeName_local hk hn (fun h' hn' hs => ?_) hcls
    obtain ⟨oL,_,_,hoL,_⟩ := id hn
    refine h _ ⟨I.ok,I.os,I.bare,⟨fun b o e n hb hx => ?_,fun b o e n hb hx => ?_,I.base.free,fun b o e hx => ?_,I.base.tups,I.base.frzs,I.base.tbls⟩,⟨_,hn',fun j y v' e1 e2 e3 => ?_⟩,fun y c e => ?_,I.free,I.freeC,fun p hp => ?_,tracked ⟨oL,hoL,I.free⟩ hs,by simpa using I.len⟩ ⟨_,hs,.inl rfl⟩
    · exact (hs.2 b (Nat.ne_of_lt (Nat.lt_of_lt_of_le (Heap.lt_size e) I.ok.above))).trans (I.base.keep b o e n hb hx)
    · obtain ⟨sl,e1⟩ := I.base.slot b o e n hb hx
      exact ⟨sl,(hs.2 b (Nat.ne_of_lt (Nat.lt_of_lt_of_le (Heap.lt_size e) I.ok.above))).trans e1⟩
    · obtain ⟨o',e1⟩ := I.base.there b o e hx
      exact ⟨o',(hs.2 b (Nat.ne_of_lt (Nat.lt_of_lt_of_le (Heap.lt_size e) I.ok.above))).trans e1⟩
    · by_cases hj : j = i
      · subst hj
        rw [hi] at e1; cases e1
        rw [List.getElem?_set_self hiσ] at e2
        cases e2
        exact ⟨u,r,.inl ⟨hk,by simp⟩⟩
      · rw [List.getElem?_set_ne (Ne.symm hj)] at e2
        obtain ⟨u',r',q⟩ := hl j y v' e1 e2 e3
        refine ⟨u',r',?_⟩
        rcases q with ⟨k,e⟩ | ⟨k,c,e,z⟩
        · refine .inl ⟨k,?_⟩
          have : y ≠ x := fun e => hj (nodup_ix hN e1 (e ▸ hi))
          simp [this,e]
        · exact .inr ⟨k,c,e,z.sameBut hs (cne y c e)⟩
    · obtain ⟨w',z⟩ := I.cell y c e
      exact ⟨w',z.sameBut hs (cne y c e)⟩
    · obtain ⟨e,n,ne,nf,d⟩ := I.pin p hp
      exact ⟨(hs.2 p.1 ne).trans e,n,ne,nf,d⟩
  · have hfn : X.fn x = true := by
      rcases hf with z | z
      · exact z
      · rw [z] at hk; cases hk
    obtain ⟨c,hc⟩ := I.ok.has x (.inl hk)
    obtain ⟨w',z⟩ := I.cell x c hc
    refine wpAny_storeName_cell I.ok.kind hk hc z (fun h' hc' hs => ?_)
    obtain ⟨oc,hoc,hocd⟩ := id z
    refine h { s with heap := h' } ⟨I.ok,I.os,I.bare,⟨fun b o e n hb hx => ?_,fun b o e n hb hx => ?_,I.base.free,fun b o e hx => ?_,I.base.tups,I.base.frzs,I.base.tbls⟩,⟨m,hn.sameBut hs (Ne.symm (cne x c hc)),fun j y v' e1 e2 e3 => ?_⟩,fun y c' e => ?_,I.free,I.freeC,fun p hp => ?_,tracked ⟨oc,hoc,I.freeC x c hc⟩ hs,by simpa using I.len⟩ ⟨c,hs,.inr hc⟩
    · exact (hs.2 b (Nat.ne_of_lt (Nat.lt_of_lt_of_le (Heap.lt_size e) (I.ok.cab x c hfn hc)))).trans (I.base.keep b o e n hb hx)
    · obtain ⟨sl,e1⟩ := I.base.slot b o e n hb hx
      exact ⟨sl,(hs.2 b (Nat.ne_of_lt (Nat.lt_of_lt_of_le (Heap.lt_size e) (I.ok.cab x c hfn hc)))).trans e1⟩
    · obtain ⟨o',e1⟩ := I.base.there b o e hx
      exact ⟨o',(hs.2 b (Nat.ne_of_lt (Nat.lt_of_lt_of_le (Heap.lt_size e) (I.ok.cab x c hfn hc)))).trans e1⟩
    · by_cases hj : j = i
      · subst hj
        rw [hi] at e1; cases e1
        rw [List.getElem?_set_self hiσ] at e2
        cases e2
        exact ⟨u,r,.inr ⟨.inl hk,c,hc,hc'⟩⟩
      · rw [List.getElem?_set_ne (Ne.symm hj)] at e2
        obtain ⟨u',r',q⟩ := hl j y v' e1 e2 e3
        refine ⟨u',r',?_⟩
        rcases q with q | ⟨k,c',e,z'⟩
        · exact .inl q
        · refine .inr ⟨k,c',e,z'.sameBut hs ?_⟩
          rintro rfl
          exact hj (nodup_ix hN e1 (I.ok.inj _ _ _ e hc ▸ hi))
    · by_cases hcc : c' = c
      · subst hcc; exact ⟨_,hc'⟩
      · obtain ⟨w2,z2⟩ := I.cell y c' e
        exact ⟨w2,z2.sameBut hs hcc⟩
    · obtain ⟨e,n,ne,nf,d⟩ := I.pin p hp
      refine ⟨(hs.2 p.1 ?_).trans e,n,ne,nf,d⟩
      intro q
      rw [q,hoc] at e
      have q' : oc = p.2 := Option.some.inj e
      exact d w' (by rw [← q']; exact hocd)
theorem store_ok {M : Model} {A : Around} {E : Value → Shared → Prop} {i : Nat} {x : Str} {v : V} {u : Value} {Q : Unit → Shared → Prop} (I : Inv X pins σ H s) (hN : X.N.Nodup) (hi : X.N[i]? = some x) (hx : Loc X.env.scope x) (r : RelV v u)
    (h : ∀ s',Inv X pins (σ.set i (some v)) H s' → Q () s') (hf : X.fn x = true ∨ X.env.scope.names.lookup x = some .local := by first | exact .inl rfl | exact .inr rfl | assumption) : wpAny M A (storeName X.env x u) Q E s :=
  store_ok2 I hN hi hx r (fun s' I' _ => h s' I') hf
theorem Inv.call' {s' : Shared} {ch : List Addr} (I : Inv X pins σ H s) (ho : s'.os = s.os) (u : Un (frs X.stack) ch H H' s.heap s'.heap) (hok : HOk X.prog X.w H' s'.heap) (hg : AllBare s'.gens)
    (hch : ∀ b ∈ ch,(b ∈ X.ex ∨ X.s₀.heap.objs.size ≤ b) ∧ b ≠ X.env.locals ∧ (∀ x c,X.env.cells.lookup x = some c → c ≠ b) ∧ ∀ p ∈ X.pn ++ pins,p.1 ≠ b) : Inv X pins σ H' s' := by
  obtain ⟨h',g',d',t',o'⟩ := s'
  have e : o' = s.os := ho
  subst e
  exact I.call (g' := g') (t' := t') (d' := d') u hok hg hch
end
abbrev XK := Value → Option Addr → Hp → Prop
abbrev St := List (Option V)
abbrev VK := V → Hp → Prop
abbrev TE := St → Hp → VK → Prop
abbrev TT := St → Hp → (Bool → Hp → Prop) → Prop
abbrev TA := St → Hp → (List V → Hp → Prop) → Prop
structure Ends where
  nx : St → Hp → Prop
  rt : VK
  bk : St → Hp → Prop := fun _ _ => False
  ct : St → Hp → Prop := fun _ _ => False
abbrev TS := Ends → St → Hp → Prop
def EP (X : Cx) (pins : List (Addr × Obj)) (σ : St) (Q : VK) (u : Value) (s' : Shared) : Prop := ∃ v H',Inv X pins σ H' s' ∧ RelV v u ∧ Q v H'
def TP (X : Cx) (pins : List (Addr × Obj)) (σ : St) (Q : Bool → Hp → Prop) (b : Bool) (s' : Shared) : Prop := ∃ H',Inv X pins σ H' s' ∧ Q b H'
def AP (X : Cx) (pins : List (Addr × Obj)) (σ : St) (Q : List V → Hp → Prop) (us : List Value) (s' : Shared) : Prop := ∃ vs H',Inv X pins σ H' s' ∧ Vals vs us ∧ Q vs H'
def SP (X : Cx) (pins : List (Addr × Obj)) (D : Ends) (f : Flow) (s' : Shared) : Prop :=
  match f with
  | .next => ∃ σ' H',Inv X pins σ' H' s' ∧ D.nx σ' H'
  | .brk => ∃ σ' H',Inv X pins σ' H' s' ∧ D.bk σ' H'
  | .cont => ∃ σ' H',Inv X pins σ' H' s' ∧ D.ct σ' H'
  | .ret u => ∃ v σ' H',Inv X pins σ' H' s' ∧ RelV v u ∧ D.rt v H'
def PE (X : Cx) (e : Expr) (t : TE) : Prop :=
  ∀ (pins : List (Addr × Obj)) (s : Shared) (σ : St) (H : Hp) (Q : VK),Inv X pins σ H s → t σ H Q → wpAny (model X.prog X.w) X.A (eval e X.env) (EP X pins σ Q) X.xe s
def PT (X : Cx) (e : Expr) (t : TT) : Prop :=
  ∀ (pins : List (Addr × Obj)) (s : Shared) (σ : St) (H : Hp) (Q : Bool → Hp → Prop),Inv X pins σ H s → t σ H Q → wpAny (model X.prog X.w) X.A (isTrue e X.env (eval e X.env)) (TP X pins σ Q) X.xe s
def PW (X : Cx) (e : Expr) (t : TT) : Prop :=
  ∀ (whole : Sem Value) (pins : List (Addr × Obj)) (s : Shared) (σ : St) (H : Hp) (Q : Bool → Hp → Prop),Inv X pins σ H s → t σ H Q → wpAny (model X.prog X.w) X.A (isTrue e X.env whole) (TP X pins σ Q) X.xe s
theorem PW.pt {X : Cx} {e : Expr} {t : TT} (h : PW X e t) : PT X e t := h _
def PA (X : Cx) (es : List Expr) (t : TA) : Prop :=
  ∀ (pos : Pos) (pins : List (Addr × Obj)) (s : Shared) (σ : St) (H : Hp) (Q : List V → Hp → Prop),Inv X pins σ H s → t σ H Q → wpAny (model X.prog X.w) X.A (spliced (backTo pos (starEach es X.env))) (AP X pins σ Q) X.xe s
def PS (X : Cx) (st : Stmt) (t : TS) : Prop :=
  ∀ (pins : List (Addr × Obj)) (s : Shared) (σ : St) (H : Hp) (D : Ends),Inv X pins σ H s → t D σ H → wpAny (model X.prog X.w) X.A (exec st X.env) (SP X pins D) X.xe s
def PSs (X : Cx) (st : List Stmt) (t : TS) : Prop :=
  ∀ (pins : List (Addr × Obj)) (s : Shared) (σ : St) (H : Hp) (D : Ends),Inv X pins σ H s → t D σ H → wpAny (model X.prog X.w) X.A (execs st X.env) (SP X pins D) X.xe s
theorem thn {α : Type} {t : Sem α} {Q Q' : α → Shared → Prop} {M : Model} {A : Around} {E : Value → Shared → Prop} {s : Shared} (h : wpAny M A t Q E s) (hQ : ∀ a s,Q a s → Q' a s) : wpAny M A t Q' E s := wpAny_mono h hQ fun _ _ x => x
end L2
namespace L2
open PySem PySem.Spec PyProof.Rows
section
variable {X : Cx}
def tVar (i : Nat) : TE := fun σ H Q => ∃ v,σ[i]? = some (some v) ∧ Q v H
def tC (v : V) : TE := fun _ H Q => Q v H
theorem pe_var {i : Nat} {x : Str} {pos : Pos} (hN : X.N[i]? = some x) (hv : Vis X.env.scope x) (hd : (x == ("__debug__" : Str)) = false := by decide) (hcd : (x == ("__classdict__" : Str)) = false := by decide) : PE X (.Name x pos) (tVar i) := by
  intro pins s σ H Q I h
  obtain ⟨v,e,h⟩ := h
  obtain ⟨m,hn,hl⟩ := I.loc
  obtain ⟨u,r,l⟩ := hl i x v hN e hv
  have fin : EP X pins σ Q u s := ⟨v,H,I,r,h⟩
  rcases l with ⟨hk,hm⟩ | ⟨hk,c,hc,hcell⟩
  · exact wpAny_Name (wpAny_loadName_local I.ok.kind hk hn hm fin) hd
  · rcases hk with hk | hk
    · exact wpAny_Name (wpAny_loadName_cell I.ok.kind hk hc hcell fin) hd
    · exact wpAny_Name (wpAny_loadName_free I.ok.kind hk hc hcell fin hcd) hd
theorem pe_int {i j pos} : PE X (.Constant (.int i) j pos) (tC (.int i)) := fun _ _ _ H _ I h => wpAny_Constant_int ⟨.int i,H,I.tok _,⟨_,rfl⟩,h⟩
theorem pe_bl {b j pos} : PE X (.Constant (.bool b) j pos) (tC (.bl b)) := fun _ _ _ H _ I h => Constant_bool ⟨.bl b,H,I,rfl,h⟩
theorem pe_non {j pos} : PE X (.Constant .none j pos) (tC .non) := fun _ _ _ H _ I h => Constant_none ⟨.non,H,I,rfl,h⟩
theorem pe_str {x j pos} : PE X (.Constant (.str x) j pos) (tC (.str x)) := fun _ _ _ H _ I h => Calls.Constant_str ⟨.str x,H,I.tok _,⟨_,rfl⟩,h⟩
def Gl (X : Cx) (x : Str) : Prop := X.env.kindOf x = some .globalImplicit
theorem ld_glob {E : Value → Shared → Prop} {pins : List (Addr × Obj)} {s : Shared} {σ : St} {H : Hp} {x : Str} {u : Value} {pos : Pos} {Q : Value → Shared → Prop} (I : Inv X pins σ H s) (hg : Gl X x) (hm : X.mg x = some u) (h : Q u s)
    (hd : (x == ("__debug__" : Str)) = false := by decide) : wpAny (model X.prog X.w) X.A (eval (.Name x pos) X.env) Q E s :=
  Calls.Name_function_global I.ok.kind hg (Calls.loadGlobal_global (by rw [I.ok.glob]; exact I.mod.glob.keeps I.bk) hm h) hd
theorem ld_blt {E : Value → Shared → Prop} {pins : List (Addr × Obj)} {s : Shared} {σ : St} {H : Hp} {x : Str} {u : Value} {pos : Pos} {Q : Value → Shared → Prop} (I : Inv X pins σ H s) (hg : Gl X x) (hm : X.mg x = none) (hv : bootBuiltins x = some u) (h : Q u s)
    (hn : x ≠ "__name__" := by decide) (hd : (x == ("__debug__" : Str)) = false := by decide) : wpAny (model X.prog X.w) X.A (eval (.Name x pos) X.env) Q E s := by
  obtain ⟨mb,h1,h2⟩ := I.mod.blt
  exact Calls.Name_function_global I.ok.kind hg (Calls.loadGlobal_builtin (by rw [I.ok.glob]; exact I.mod.glob.keeps I.bk) hm (by rw [I.ok.blt]; exact h1.keeps I.bk) ((h2 x hn).trans hv) h) hd
theorem pe_glob {x : Str} {v : V} {u : Value} {pos : Pos} (hg : Gl X x) (hm : X.mg x = some u) (r : RelV v u) (hd : (x == ("__debug__" : Str)) = false := by decide) : PE X (.Name x pos) (tC v) :=
  fun _ _ _ H _ I h => ld_glob I hg hm ⟨v,H,I,r,h⟩ hd
theorem pe_bltn {x : Str} {v : V} {u : Value} {pos : Pos} (hg : Gl X x) (hm : X.mg x = none) (hv : bootBuiltins x = some u) (r : RelV v u) (hn : x ≠ "__name__" := by decide) (hd : (x == ("__debug__" : Str)) = false := by decide) : PE X (.Name x pos) (tC v) :=
  fun _ _ _ H _ I h => ld_blt I hg hm hv ⟨v,H,I,r,h⟩ hn hd
variable {a b : Expr} {ta tb : TE} {pos : Pos}
def tB (t : TE) : TT := fun σ H Q => t σ H fun x H1 => ∃ c,x = .bl c ∧ Q c H1
theorem pt_val {e : Expr} {t : TE} (h : PE X e t) (he : ∀ whole,isTrue e X.env whole = (do let v ← whole; standAt e.pos; holding [v] (truthy v)) := by intro _; rfl) : PT X e (tB t) := by
  intro pins s σ H Q I hw
  refine isTrue_plain (thn (h pins s σ H _ I hw) fun v s1 ⟨x,H1,I1,r1,q1⟩ => ?_) (he _)
  obtain ⟨d,rfl,q⟩ := q1
  cases r1
  exact wpAny_truthy_bool ⟨H1,I1,q⟩
variable {tA tB' : TT} {rest : List Expr}
def tOr (t u : TT) : TT := fun σ H Q => t σ H fun c H1 => if c = true then Q true H1 else u σ H1 Q
def tNot (t : TT) : TT := fun σ H Q => t σ H fun c H1 => Q (!c) H1
theorem pw_or1 (ha : PT X a tA) : PW X (.BoolOp .Or [a] pos) tA := by
  intro wh pins s σ H Q I h
  refine isTrue_or (thn (ha pins s σ H Q I h) fun c s1 e => ?_)
  cases c with
  | false => exact isTrue_or_nil e
  | true => exact e
theorem pw_or (ha : PT X a tA) (hb : PW X (.BoolOp .Or (b :: rest) pos) tB') : PW X (.BoolOp .Or (a :: b :: rest) pos) (tOr tA tB') := by
  intro wh pins s σ H Q I h
  refine isTrue_or (thn (ha pins s σ H _ I h) fun c s1 ⟨H1,I1,q1⟩ => ?_)
  cases c with
  | true => exact ⟨H1,I1,q1⟩
  | false => exact hb wh pins s1 σ H1 Q I1 q1
theorem pt_not (ha : PT X a tA) : PT X (.UnaryOp .Not a pos) (tNot tA) := by
  intro pins s σ H Q I h
  exact isTrue_not (ha pins s σ H (fun c H1 => Q (!c) H1) I h)
def tAndV (ta tb : TE) : TE := fun σ H Q => ta σ H fun x H1 => ∃ c,x = .bl c ∧ if c = true then tb σ H1 Q else Q (.bl false) H1
def tNotV (ta : TE) : TE := fun σ H Q => ta σ H fun x H1 => ∃ c,x = .bl c ∧ Q (.bl (!c)) H1
theorem pe_one {op} {t : TE} (h : PE X a t) : PE X (.BoolOp op [a] pos) t := fun pins s σ H Q I hw => BoolOp_one (h pins s σ H Q I hw)
theorem pe_and (ha : PE X a ta) (hb : PE X (.BoolOp .And (b :: rest) pos) tb) : PE X (.BoolOp .And (a :: b :: rest) pos) (tAndV ta tb) := by
  intro pins s σ H Q I h
  refine BoolOp_and (thn (ha pins s σ H _ I h) fun v s1 ⟨x,H1,I1,r1,q1⟩ => ?_)
  obtain ⟨c,rfl,q1⟩ := q1
  cases r1
  refine wpAny_truthy_bool ?_
  cases c with
  | true => exact hb pins s1 σ H1 Q I1 q1
  | false => exact ⟨.bl false,H1,I1,rfl,q1⟩
theorem pe_not (ha : PE X a ta) : PE X (.UnaryOp .Not a pos) (tNotV ta) := by
  intro pins s σ H Q I h
  refine UnaryOp_ (thn (ha pins s σ H _ I h) fun v s1 ⟨x,H1,I1,r1,q1⟩ => ?_)
  obtain ⟨c,rfl,q1⟩ := q1
  cases r1
  exact not_of (wpAny_truthy_bool ⟨.bl (!c),H1,I1,rfl,q1⟩)
end
end L2
namespace L2
open PySem PySem.Spec PyProof.Rows
def SqL (K : PySem.W.Frag) (H : Hp) (a : Addr) (xs : List V) : Prop :=
  Rd H a (.lst xs) ∨
    ∃ (o : Obj) (its : Array Value) (n : Nat),K.lookup a = some o ∧ o.cls = .type "list" ∧ o.dict = none ∧ o.data = .seq its n ∧ its.size ≤ sizeLine ∧ Vals xs its.toList
def SqT (K : PySem.W.Frag) (H : Hp) (a : Addr) (xs : List V) : Prop :=
  Rd H a (.tup xs) ∨
    ∃ (o : Obj) (its : Array Value) (n : Nat),K.lookup a = some o ∧ o.cls = .type "tuple" ∧ o.data = .seq its n ∧ its.size ≤ sizeLine ∧ Vals xs its.toList
def absV : Value → Option V
  | .none => some .non
  | .bool b => some (.bl b)
  | .int i _ => some (.int i)
  | .str x _ => some (.str x)
  | .bytes b _ => some (.byt b)
  | .float b _ => some (.flt b)
  | .ref a => some (.ref a)
  | .type n => some (.ty n)
  | _ => none
theorem RelV.abs {x : V} {u : Value} (r : RelV x u) : absV u = some x := by
  cases x with
  | non => cases r; rfl
  | bl _ => cases r; rfl
  | int _ => obtain ⟨t,rfl⟩ := r; rfl
  | str _ => obtain ⟨t,rfl⟩ := r; rfl
  | byt _ => obtain ⟨t,rfl⟩ := r; rfl
  | flt _ => obtain ⟨t,rfl⟩ := r; rfl
  | ref _ => cases r; rfl
  | ty _ => cases r; rfl
theorem RelV.inj {x y : V} {u : Value} (r : RelV x u) (q : RelV y u) : x = y := Option.some.inj (r.abs.symm.trans q.abs)
theorem Vals.inj : ∀ {xs ys : List V} {us : List Value},Vals xs us → Vals ys us → xs = ys
  | _,_,_,.nil,.nil => rfl
  | _,_,_,.cons r t,.cons r' t' => by rw [r.inj r',Vals.inj t t']
section
variable {X : Cx} {pins : List (Addr × Obj)} {σ : St} {H : Hp} {s : Shared} {a : Addr} {xs ys : List V}
theorem SqL.of {K : PySem.W.Frag} (h : H a = some (.lst xs)) : SqL K H a xs := .inl (.inl h)
theorem SqT.of {K : PySem.W.Frag} (h : H a = some (.tup xs)) : SqT K H a xs := .inl (.inl h)
theorem Inv.list (I : Inv X pins σ H s) (h : SqL X.K H a xs) : ∃ its : List Value,Vals xs its ∧ PlainL s.heap a its.toArray ∧ xs.length ≤ sizeLine := by
  rcases h with h | ⟨o,its,n,hk,hc,hd,hs,hz,r⟩
  · obtain ⟨z,its,n,r,e⟩ := h.ok I.hok
    exact ⟨its,r,⟨_,n,e,rfl,rfl,rfl⟩,z⟩
  · refine ⟨its.toList,r,⟨o,n,I.kIn a o hk,hc,hd,by simpa using hs⟩,?_⟩
    have e := r.length
    simp only [Array.length_toList] at e
    omega
theorem Inv.tuple (I : Inv X pins σ H s) (h : SqT X.K H a xs) : ∃ its : List Value,Vals xs its ∧ IsTup s.heap a its.toArray ∧ xs.length ≤ sizeLine := by
  rcases h with h | ⟨o,its,n,hk,hc,hs,hz,r⟩
  · obtain ⟨z,its,r,p⟩ := h.ok I.hok
    exact ⟨its,r,p,z⟩
  · refine ⟨its.toList,r,⟨o,I.kIn a o hk,hc,n,by simpa using hs⟩,?_⟩
    have e := r.length
    simp only [Array.length_toList] at e
    omega
theorem Inv.list_inj (I : Inv X pins σ H s) (h : SqL X.K H a xs) (h' : SqL X.K H a ys) : xs = ys := by
  obtain ⟨its,r,⟨o,n,e,_,_,d⟩,_⟩ := I.list h
  obtain ⟨its',r',⟨o',n',e',_,_,d'⟩,_⟩ := I.list h'
  rw [e] at e'; cases e'
  rw [d] at d'
  injection d' with d1 _
  have : its = its' := by simpa using congrArg Array.toList d1
  subst this
  exact r.inj r'
end
abbrev Cx.wish (X : Cx) (E : Value → Shared → Prop) : Cx := { X with xe := E }
abbrev Cx.nox (X : Cx) : Cx := X.wish fun _ _ => False
theorem Cx.Ok.wish {X : Cx} (ok : X.Ok) (E : Value → Shared → Prop) : (X.wish E).Ok :=
  ⟨ok.mod,ok.kind,ok.glob,ok.blt,ok.above,ok.inj,ok.has,ok.cab,ok.hd,ok.frames,ok.stk,ok.exf,ok.bs,ok.bsz,ok.noex,ok.exfs,ok.funs,ok.frf⟩
theorem Cx.Ok.unwish {X : Cx} {E : Value → Shared → Prop} (ok : (X.wish E).Ok) : X.Ok :=
  ⟨ok.mod,ok.kind,ok.glob,ok.blt,ok.above,ok.inj,ok.has,ok.cab,ok.hd,ok.frames,ok.stk,ok.exf,ok.bs,ok.bsz,ok.noex,ok.exfs,ok.funs,ok.frf⟩
section
variable {X : Cx} {pins : List (Addr × Obj)} {σ : St} {H : Hp} {s : Shared} {E : Value → Shared → Prop}
theorem Inv.wish (I : Inv X pins σ H s) (E : Value → Shared → Prop) : Inv (X.wish E) pins σ H s := ⟨I.ok.wish E,I.os,I.bare,I.base,I.loc,I.cell,I.free,I.freeC,I.pin,I.hok,I.len⟩
theorem Inv.unwish (I : Inv (X.wish E) pins σ H s) : Inv X pins σ H s := ⟨I.ok.unwish,I.os,I.bare,I.base,I.loc,I.cell,I.free,I.freeC,I.pin,I.hok,I.len⟩
theorem SP.unwish {D : Ends} {f : Flow} {s' : Shared} (h : SP (X.wish E) pins D f s') : SP X pins D f s' := by
  cases f with
  | next => obtain ⟨σ',H',I,q⟩ := h; exact ⟨σ',H',I.unwish,q⟩
  | brk => obtain ⟨σ',H',I,q⟩ := h; exact ⟨σ',H',I.unwish,q⟩
  | cont => obtain ⟨σ',H',I,q⟩ := h; exact ⟨σ',H',I.unwish,q⟩
  | ret u => obtain ⟨v,σ',H',I,r,q⟩ := h; exact ⟨v,σ',H',I.unwish,r,q⟩
theorem PSs.nox {st : List Stmt} {t : TS} (h : PSs X.nox st t) : PSs X st t := fun pins s σ H D I hw =>
  wpAny_mono (h pins s σ H D (I.wish _) hw) (fun _ _ q => q.unwish) fun _ _ z => False.elim z
end
section
variable {X : Cx} {st : Stmt} {rest : List Stmt} {t u : TS} {e : Expr} {te : TE} {pos : Pos}
def tNext : TS := fun D σ H => D.nx σ H
def tSeq (t u : TS) : TS := fun D σ H => t { D with nx := u D } σ H
theorem pss_nil : PSs X [] tNext := fun _ _ σ H _ I h => wpAny_execs_nil ⟨σ,H,I,h⟩
theorem pss_cons (h1 : PS X st t) (h2 : PSs X rest u) : PSs X (st :: rest) (tSeq t u) := by
  intro pins s σ H D I h
  refine wpAny_execs_cons (thn (h1 pins s σ H { D with nx := u D } I h) fun f s1 q => ?_)
  cases f with
  | next =>
    obtain ⟨σ',H',I',q⟩ := q
    exact h2 pins s1 σ' H' D I' q
  | ret v => exact q
  | brk => exact q
  | cont => exact q
theorem pss_one (h1 : PS X st t) : PSs X [st] t := by
  intro pins s σ H D I h
  refine wpAny_execs_cons (thn (h1 pins s σ H D I h) fun f s1 q => ?_)
  cases f with
  | next => exact wpAny_execs_nil q
  | ret v => exact q
  | brk => exact q
  | cont => exact q
theorem Inv.quiet {pins : List (Addr × Obj)} {σ : St} {H : Hp} {s : Shared} (I : Inv X pins σ H s) : interactive X.env = false := by simp [interactive,I.ok.kind]
def tDrop (te : TE) : TS := fun D σ H => te σ H fun _ H1 => D.nx σ H1
theorem ps_expr (he : PE X e te) (hs : swapsWith e none pos.line X.env = pure false := by rfl) : PS X (.Expr e pos) (tDrop te) := by
  intro pins s σ H D I h
  exact wpAny_Expr_any (thn (he pins s σ H _ I h) fun v s1 ⟨x,H1,I1,r1,q1⟩ => ⟨σ,H1,I1,q1⟩) I.quiet hs
def tRet (te : TE) : TS := fun D σ H => te σ H D.rt
theorem ps_ret (he : PE X e te) : PS X (.Return (some e) pos) (tRet te) := by
  intro pins s σ H D I h
  exact wpAny_Return_some (thn (he pins s σ H _ I h) fun v s1 ⟨x,H1,I1,r1,q1⟩ => ⟨x,σ,H1,I1,r1,q1⟩)
def tIfS (c : TT) (t u : TS) : TS := fun D σ H => c σ H fun b H1 => if b = true then t D σ H1 else u D σ H1
theorem ps_if {c : Expr} {a b : List Stmt} {tc : TT} (hc : PT X c tc) (ha : PSs X a t) (hb : PSs X b u) : PS X (.If c a b pos) (tIfS tc t u) := by
  intro pins s σ H D I h
  refine wpAny_If (thn (hc pins s σ H _ I h) fun d s1 ⟨H1,I1,q1⟩ => ?_)
  cases d with
  | true => exact ha pins s1 σ H1 D I1 q1
  | false => exact hb pins s1 σ H1 D I1 q1
end
abbrev TG := V → St → Hp → (St → Hp → Prop) → Prop
def PG (X : Cx) (target : Expr) (t : TG) : Prop :=
  ∀ (pins : List (Addr × Obj)) (s : Shared) (σ : St) (H : Hp) (v : V) (u : Value) (Q : St → Hp → Prop),Inv X pins σ H s → RelV v u → t v σ H Q →
    wpAny (model X.prog X.w) X.A (assign target X.env u) (fun _ s' => ∃ σ' H',Inv X pins σ' H' s' ∧ Q σ' H') X.xe s
section
variable {X : Cx} {pos : Pos}
def gName (i : Nat) : TG := fun v σ H Q => Q (σ.set i (some v)) H
theorem pg_name {i : Nat} {x : Str} (hN : X.N.Nodup) (hi : X.N[i]? = some x) (hx : Loc X.env.scope x) (hf : X.fn x = true ∨ X.env.scope.names.lookup x = some .local := by first | exact .inl rfl | exact .inr rfl | assumption) : PG X (.Name x pos) (gName i) := by
  intro pins s σ H v u Q I r h
  exact wpAny_assign_Name (store_ok I hN hi hx r (fun s' I' => ⟨_,H,I',h⟩) hf)
def tAsg (te : TE) (g : TG) : TS := fun D σ H => te σ H fun x H1 => g x σ H1 D.nx
theorem ps_set {i : Nat} {x : Str} {e : Expr} {te : TE} {pos' : Pos} (hN : X.N.Nodup) (hi : X.N[i]? = some x) (hx : Loc X.env.scope x) (he : PE X e te) (hs : swapsWith e (some (.Name x pos')) pos.line X.env = pure false := by rfl) (hf : X.fn x = true ∨ X.env.scope.names.lookup x = some .local := by first | exact .inl rfl | exact .inr rfl | assumption) :
    PS X (.Assign [.Name x pos'] e pos) (tAsg te (gName i)) := by
  intro pins s σ H D I h
  refine wpAny_Assign_Name (thn (he pins s σ H _ I h) fun v s1 ⟨y,H1,I1,r1,q1⟩ => ?_) hs
  exact store_ok I1 hN hi hx r1 (fun s2 I2 => ⟨_,H1,I2,q1⟩) hf
end
section
variable {X : Cx} {pos : Pos}
def tWhile (c : TT) (tb : TS) : TS := fun D σ H => ∃ W : Nat → St → Hp → Prop,(∃ m,W m σ H) ∧ ∀ m σ H,W m σ H →
  c σ H fun b H1 => if b = true then ∃ N : St → Hp → Prop,(∀ σ' H',N σ' H' → ∃ m',m' < m ∧ W m' σ' H') ∧ tb { D with nx := N,ct := N,bk := D.nx } σ H1 else D.nx σ H1
theorem ps_while {c : Expr} {body : List Stmt} {tc : TT} {tb : TS} (hp : PassesOwn (model X.prog X.w) X.A X.env X.xe) (hc : PT X c tc) (hb : PSs X body tb) : PS X (.While c body [] pos) (tWhile tc tb) := by
  intro pins s σ H D I h
  obtain ⟨W,⟨m0,w0⟩,turn⟩ := h
  refine wpAny_While (codeAny_whileLoop (fun n s' => ∃ σ' H',Inv X pins σ' H' s' ∧ W n σ' H') ?_ m0 ⟨σ,H,I,w0⟩)
  rintro n s1 ⟨σ1,H1,I1,w1⟩
  refine wpAny_passesOwn hp (thn (hc pins s1 σ1 H1 _ I1 (turn n σ1 H1 w1)) fun b s2 ⟨H2,I2,q2⟩ => ?_)
  cases b with
  | true =>
    obtain ⟨N,hN,q2⟩ := q2
    rw [if_pos rfl]
    refine wpAny_passesOwn hp (thn (hb pins s2 σ1 H2 _ I2 q2) fun f s3 q3 => ?_)
    cases f with
    | next =>
      obtain ⟨σ3,H3,I3,n3⟩ := q3
      obtain ⟨m',hm,w3⟩ := hN σ3 H3 n3
      exact ⟨m',hm,σ3,H3,I3,w3⟩
    | cont =>
      obtain ⟨σ3,H3,I3,n3⟩ := q3
      obtain ⟨m',hm,w3⟩ := hN σ3 H3 n3
      exact ⟨m',hm,σ3,H3,I3,w3⟩
    | brk => exact q3
    | ret v => exact q3
  | false =>
    rw [if_neg Bool.false_ne_true]
    exact wpAny_execs_nil ⟨σ1,H2,I2,q2⟩
end
structure It where
  go : Nat → Hp → Prop
  yld : Nat → Hp → V → Hp → Prop
  stop : Nat → Hp → Prop
def FpOk (X : Cx) (pins : List (Addr × Obj)) (H : Hp) (b : Addr) : Prop :=
  H b = none ∧ b ≠ X.env.locals ∧ b ∉ X.fs ∧ (b ∈ X.ex ∨ X.s₀.heap.objs.size ≤ b) ∧ (∀ x c,X.env.cells.lookup x = some c → c ≠ b) ∧ ∀ p ∈ X.pn ++ pins,p.1 ≠ b
theorem Inv.fpOk {X : Cx} {pins : List (Addr × Obj)} {σ : St} {H H' : Hp} {s : Shared} {b : Addr} (I : Inv X pins σ H s) (hb : s.heap.objs.size ≤ b) (hn : H' b = none) : FpOk X pins H' b := by
  refine ⟨hn,Nat.ne_of_gt (Nat.lt_of_lt_of_le I.lt hb),I.nofs hb,.inr (Nat.le_trans I.sz hb),fun x c e z => ?_,fun p hp z => ?_⟩
  · obtain ⟨v,q⟩ := I.cell x c e
    exact absurd (Nat.lt_of_lt_of_le q.lt (by rw [z]; exact hb)) (Nat.lt_irrefl _)
  · exact absurd (Nat.lt_of_lt_of_le (Heap.lt_size (I.pin p hp).1) (by rw [z]; exact hb)) (Nat.lt_irrefl _)
structure Turn (P : Program) (w : World) (K : PySem.W.Frag) (tg : Expr) (J : It) (fp : List Addr) (it : Addr) (tn : Nat → Heap → Prop) : Prop where
  mem : it ∈ fp
  obj : ∀ i h,tn i h → ∀ b ∈ fp,∃ o,h.get? b = some o ∧ ∀ v,o.data ≠ .cell v
  keep : ∀ i h h',tn i h → (∀ b ∈ fp,∀ o,h.get? b = some o → h'.get? b = some o) → tn i h'
  item : ∀ (X : Cx),X.prog = P → X.w = w → X.K = K → X.calm = true → ∀ (i : Nat) (pins : List (Addr × Obj)) (s : Shared) (σ : St) (H : Hp) (E : Value → Shared → Prop),Inv X pins σ H s → (∀ b ∈ fp,FpOk X pins H b) → tn i s.heap → J.go i H →
    wpAny (model P w) X.A (pyNext (.ref it)) (fun r s1 => ∃ u,r = some u ∧
      wpAny (model P w) X.A (letOwnedTupleGo tg (.ref it) u) (fun _ s2 => ∃ x H',Inv X pins σ H' s2 ∧ RelV x u ∧ J.yld i H x H' ∧ tn (i + 1) s2.heap ∧ ∀ b ∈ fp,H' b = none) E s1) E s
  done : ∀ (X : Cx),X.prog = P → X.w = w → X.K = K → X.calm = true → ∀ (i : Nat) (pins : List (Addr × Obj)) (s : Shared) (σ : St) (H : Hp) (E : Value → Shared → Prop),Inv X pins σ H s → (∀ b ∈ fp,FpOk X pins H b) → tn i s.heap → J.stop i H →
    wpAny (model P w) X.A (pyNext (.ref it)) (fun r s1 => r = none ∧ Inv X pins σ H s1) E s
  self : ∀ (A : Around) (i : Nat) (s : Shared) (Q : Value → Shared → Prop) (E : Value → Shared → Prop),tn i s.heap → Q (.ref it) s → wpAny (model P w) A (pyIter (.ref it)) Q E s
abbrev TI := St → Hp → (It → Hp → Prop) → Prop
def PIE (X : Cx) (pins : List (Addr × Obj)) (σ : St) (tg : Expr) (R : It → Hp → Prop) (itv : Value) (s2 : Shared) : Prop :=
  ∃ (it : Addr) (fp : List Addr) (tn : Nat → Heap → Prop) (J : It) (H' : Hp),itv = .ref it ∧ Inv X pins σ H' s2 ∧ Turn X.prog X.w X.K tg J fp it tn ∧ tn 0 s2.heap ∧ (∀ b ∈ fp,FpOk X pins H' b) ∧ R J H'
def PI (X : Cx) (tg iter : Expr) (wi : TI) : Prop :=
  ∀ (pins : List (Addr × Obj)) (s : Shared) (σ : St) (H : Hp) (R : It → Hp → Prop),Inv X pins σ H s → wi σ H R →
    wpAny (model X.prog X.w) X.A (eval iter X.env) (fun v s1 => wpAny (model X.prog X.w) X.A (pyIter v) (PIE X pins σ tg R) X.xe s1) X.xe s
theorem go_of {M : Model} {A : Around} {E : Value → Shared → Prop} {s : Shared} {tg : Expr} {it : Addr} {u : Value} {o : Obj} {n : String} {vs : Array Value} {Q : Unit → Shared → Prop} (ho : s.heap.get? it = some o) (hc : o.cls = .type n) (hd : o.data = .fields vs)
    (hn : ["enumerate","zip","dict_itemiterator","dict_reverseitemiterator","odict_iterator","itertools.zip_longest","itertools.pairwise"].contains n = false) (hQ : Q () s) : wpAny M A (letOwnedTupleGo tg (.ref it) u) Q E s := by
  unfold letOwnedTupleGo
  cases tg <;> first
    | exact wpAny_pure hQ
    | (cases u <;> first
        | exact wpAny_pure hQ
        | (refine wpAny_bind (wpAny_load ho ?_)
           rw [hc,hd]
           show wpAny M A (if (["enumerate","zip","dict_itemiterator","dict_reverseitemiterator","odict_iterator","itertools.zip_longest","itertools.pairwise"].contains n && vs[0]? == some (rawInt _)) = true then _ else _) Q E s
           rw [if_neg (by intro h; rw [hn,Bool.false_and] at h; cases h)]
           exact wpAny_pure hQ))
def Itl (K : PySem.W.Frag) (a : Addr) : It :=
  ⟨fun i H => ∃ xs x,SqL K H a xs ∧ xs[i]? = some x,fun i H x H' => H' = H ∧ ∀ xs,SqL K H a xs → xs[i]? = some x,fun i H => ∃ xs,SqL K H a xs ∧ xs.length ≤ i⟩
def Itr (lo : Int) (n : Nat) : It := ⟨fun i _ => i < n,fun i H x H' => H' = H ∧ x = .int (lo + i),fun i _ => n ≤ i⟩
theorem turn_list {P : Program} {w : World} {K : PySem.W.Frag} {tg : Expr} (a it : Addr) : Turn P w K tg (Itl K a) [it] it (fun i h => h.IsListIter it a i) where
  mem := by simp
  obj := fun i h st b hb => by
    have e : b = it := by simpa using hb
    subst e
    obtain ⟨o,e,c,d⟩ := st
    exact ⟨o,e,fun v z => by rw [d] at z; cases z⟩
  keep := fun i h h' st k => st.at fun o e => k it (by simp) o e
  item := by
    intro X hP hw hK hc i pins s σ H E I hf st hg
    subst hP hw hK
    obtain ⟨xs,x,hq,hx⟩ := hg
    obtain ⟨its,rv,p,hz⟩ := I.list hq
    obtain ⟨u,hu,ru⟩ := rv.get hx
    obtain ⟨f0,f1,f2,f3,f4,f5⟩ := hf it (by simp)
    refine wpAny_pyNext_list_item st p.isList (x := u) (by simpa using hu) fun h' st' sb => ?_
    have I1 : Inv X pins σ H { s with heap := h' } := I.turned (t' := s.toks) (fun b o hb e => (sb.2 b hb).trans e) f0 f1 f3 f4 f5
    obtain ⟨o,e,c,d⟩ := id st'
    exact ⟨u,rfl,go_of (s := { s with heap := h' }) e c d (by decide) ⟨x,H,I1,ru,⟨rfl,fun ys hy => by rw [I.list_inj hy hq]; exact hx⟩,st',fun b hb => (hf b hb).1⟩⟩
  done := by
    intro X hP hw hK hc i pins s σ H E I hf st hg
    subst hP hw hK
    obtain ⟨xs,hq,hx⟩ := hg
    obtain ⟨its,rv,p,hz⟩ := I.list hq
    obtain ⟨f0,f1,f2,f3,f4,f5⟩ := hf it (by simp)
    have hl := rv.length
    exact wpAny_pyNext_list_end (I.ok.hd hc) st p.isList (by simp; omega) fun h' eb => ⟨rfl,I.turned (t' := s.toks) (fun b o hb e => eb b o hb e) f0 f1 f3 f4 f5⟩
  self := fun _ _ _ _ _ st h => wpAny_pyIter_listiter st h
theorem turn_range {P : Program} {w : World} {K : PySem.W.Frag} {tg : Expr} (it : Addr) (lo : Int) (n : Nat) : Turn P w K tg (Itr lo n) [it] it (fun i h => IsRangeIter h it (lo + (i : Nat) * 1) ((n : Int) - (i : Nat)) 1) where
  mem := by simp
  obj := fun i h st b hb => by
    have e : b = it := by simpa using hb
    subst e
    exact ⟨_,st,fun v z => by
      have z' : Data.fields _ = Data.cell v := z
      cases z'⟩
  keep := fun i h h' st k => k it (by simp) _ st
  item := by
    intro X hP hw hK hc i pins s σ H E I hf st hg
    subst hP hw hK
    obtain ⟨f0,f1,f2,f3,f4,f5⟩ := hf it (by simp)
    have W := Walks.range (prog := X.prog) (w := X.w) (I.ok.hd hc) it lo 1 n
    refine W.item i s _ _ hg st fun v h' tk hv st' kk => ?_
    obtain ⟨t,rfl⟩ := hv
    have I1 : Inv X pins σ H { s with heap := h',toks := tk } := I.turned (fun b o hb e => kk b o (by simpa using hb) e) f0 f1 f3 f4 f5
    refine ⟨_,rfl,go_of (s := { s with heap := h',toks := tk }) (n := "range_iterator") st' rfl rfl (by decide) ⟨.int (lo + i),H,I1,⟨t,?_⟩,⟨rfl,rfl⟩,st',fun b hb => (hf b hb).1⟩⟩
    rw [Int.mul_one]
  done := by
    intro X hP hw hK hc i pins s σ H E I hf st hg
    subst hP hw hK
    obtain ⟨f0,f1,f2,f3,f4,f5⟩ := hf it (by simp)
    exact wpAny_pyNext_range_end (I.ok.hd hc) st (by have : n ≤ i := hg; omega) fun h' eb => ⟨rfl,I.turned (t' := s.toks) (fun b o hb e => eb b o hb e) f0 f1 f3 f4 f5⟩
  self := fun _ _ _ _ _ st h => wpAny_pyIter_rangeiter st h
end L2
namespace L2
open PySem PySem.Spec PyProof.Rows
section
variable {X : Cx} {tg : Expr}
def iList (K : PySem.W.Frag) (tl : TE) : TI := fun σ H R => tl σ H fun x H1 => ∃ a,x = .ref a ∧ (∃ xs,SqL K H1 a xs) ∧ R (Itl K a) H1
theorem pi_list {l : Expr} {tl : TE} (hl : PE X l tl) : PI X tg l (iList X.K tl) := by
  intro pins s σ H R I h
  refine thn (hl pins s σ H _ I h) fun v s1 ⟨x,H1,I1,r1,q1⟩ => ?_
  obtain ⟨a,e,⟨xs,hq⟩,q⟩ := q1
  subst e
  cases r1
  obtain ⟨its,rv,p,hz⟩ := I1.list hq
  refine wpAny_pyIter_list p.isList ?_
  refine ⟨s1.heap.objs.size,[s1.heap.objs.size],_,_,H1,rfl,I1.kept (t' := s1.toks) fun b o e => Heap.get?_push_of_some _ e,turn_list a _,⟨_,Heap.get?_push_size _ rfl,rfl,rfl⟩,fun b hb => ?_,q⟩
  have e : b = s1.heap.objs.size := by simpa using hb
  subst e
  exact I1.fpOk (Nat.le_refl _) (I1.hok.fresh (Nat.le_refl _))
theorem range_it {pins : List (Addr × Obj)} {σ : St} {H : Hp} {s : Shared} {R : It → Hp → Prop} {E : Value → Shared → Prop} {lo hi : Int} {t u v : Tok} {tk : Nat} (I : Inv X pins σ H s) (h1 : -(2 ^ 62) ≤ lo) (h2 : lo < 2 ^ 62) (h3 : -(2 ^ 62) ≤ hi) (h4 : hi < 2 ^ 62)
    (q : R (Itr lo (hi - lo).toNat) H) : wpAny (model X.prog X.w) X.A (pyIter (.ref s.heap.objs.size)) (PIE X pins σ tg R) E { s with heap := s.heap.push { cls := .type "range",data := .fields #[.int lo t,.int hi u,.int 1 v] },toks := tk } := by
  refine wpAny_pyIter_range (IsRange.new ..) (small_one h1 h2 h3 h4) ?_
  have I1 : Inv X pins σ H { s with heap := s.heap.push { cls := .type "range",data := .fields #[.int lo t,.int hi u,.int 1 v] },toks := tk } := I.kept fun b o e => Heap.get?_push_of_some _ e
  refine ⟨(s.heap.push { cls := .type "range",data := .fields #[.int lo t,.int hi u,.int 1 v] }).objs.size,[(s.heap.push { cls := .type "range",data := .fields #[.int lo t,.int hi u,.int 1 v] }).objs.size],_,_,H,rfl,
    I1.kept (t' := tk) fun b o e => Heap.get?_push_of_some _ e,turn_range _ lo (hi - lo).toNat,?_,fun b hb => ?_,q⟩
  · have e1 : lo + ((0 : Nat) : Int) * 1 = lo := by simp
    have e2 : (((hi - lo).toNat : Nat) : Int) - ((0 : Nat) : Int) = Builtin.Range.rangeSize lo hi 1 := by rw [rangeSize_one]; split <;> omega
    show IsRangeIter _ _ (lo + ((0 : Nat) : Int) * 1) ((((hi - lo).toNat : Nat) : Int) - ((0 : Nat) : Int)) 1
    rw [e1,e2]
    exact Heap.get?_push_size _ rfl
  · have e : b = (s.heap.push { cls := .type "range",data := .fields #[.int lo t,.int hi u,.int 1 v] }).objs.size := by simpa using hb
    subst e
    exact I1.fpOk (Nat.le_refl _) (I1.hok.fresh (Nat.le_refl _))
def iRng1 (ta : TA) : TI := fun σ H R => ta σ H fun vs H1 => ∃ j : Int,vs = [.int j] ∧ -(2 ^ 62) ≤ j ∧ j < 2 ^ 62 ∧ R (Itr 0 j.toNat) H1
theorem pi_range1 {a : Expr} {ta : TA} {p pos : Pos} (hg : Gl X "range") (hm : X.mg "range" = none) (ha : PA X [a] ta) (hs : starEach [a] X.env = [(false,eval a X.env)] := by rfl) : PI X tg (.Call (.Name "range" p) [a] [] pos) (iRng1 ta) := by
  intro pins s σ H R I h
  refine Call_ (ld_blt I hg hm boot_range (PyProof.Rows.callWith_type1 (thn (ha pos pins s σ H _ I h) fun us s1 ⟨vs,H1,I1,r1,q1⟩ => ?_) hs rfl))
  obtain ⟨j,e,q1,q2,q⟩ := q1
  subst e
  cases r1 with
  | cons r rr =>
    cases rr
    obtain ⟨t,rfl⟩ := r
    exact call_range_1 (range_it I1 (by omega) (by omega) q1 q2 (by simpa using q))
def tFor (wi : TI) (g : TG) (tb : TS) : TS := fun D σ H => wi σ H fun J H1 => ∃ W : Nat → Nat → St → Hp → Prop,(∃ m,W 0 m σ H1) ∧ ∀ i m σ H,W i m σ H →
  (J.stop i H ∧ D.nx σ H) ∨ (J.go i H ∧ ∃ N : St → Hp → Prop,(∀ σ' H',N σ' H' → ∃ m',m' < m ∧ W (i + 1) m' σ' H') ∧ ∀ x H',J.yld i H x H' → g x σ H' fun σ2 H2 => tb { D with nx := N,ct := N,bk := D.nx } σ2 H2)
def pinsAt (fp : List Addr) (h : Heap) : List (Addr × Obj) := fp.filterMap fun b => (h.get? b).map fun o => (b,o)
theorem mem_pinsAt {fp : List Addr} {h : Heap} {b : Addr} {o : Obj} (hb : b ∈ fp) (e : h.get? b = some o) : (b,o) ∈ pinsAt fp h := List.mem_filterMap.mpr ⟨b,hb,by rw [e]; rfl⟩
theorem of_pinsAt {fp : List Addr} {h : Heap} {p : Addr × Obj} (hp : p ∈ pinsAt fp h) : p.1 ∈ fp ∧ h.get? p.1 = some p.2 := by
  obtain ⟨b,hb,e⟩ := List.mem_filterMap.mp hp
  cases q : h.get? b with
  | none => rw [q] at e; cases e
  | some o =>
    rw [q] at e
    have e' : (b,o) = p := Option.some.inj e
    subst e'
    exact ⟨hb,q⟩
theorem Inv.pinned {pins : List (Addr × Obj)} {σ : St} {H : Hp} {s : Shared} {fp : List Addr} (I : Inv X pins σ H s) (hf : ∀ b ∈ fp,FpOk X pins H b) (ho : ∀ b ∈ fp,∃ o,s.heap.get? b = some o ∧ ∀ v,o.data ≠ .cell v) : Inv X (pins ++ pinsAt fp s.heap) σ H s :=
  I.pins_of fun p hp => (List.mem_append.mp hp).elim (fun z => I.pin p (List.mem_append_right _ z)) fun z => by
    obtain ⟨hb,e⟩ := of_pinsAt z
    obtain ⟨f0,f1,f2,_⟩ := hf p.1 hb
    obtain ⟨o,e',d⟩ := ho p.1 hb
    rw [e] at e'; cases e'
    exact ⟨e,f0,f1,f2,d⟩
theorem Inv.unpinned {pins pl : List (Addr × Obj)} {σ : St} {H : Hp} {s : Shared} (I : Inv X (pins ++ pl) σ H s) : Inv X pins σ H s := I.pins_of fun p hp => I.pin p (List.mem_append_right _ (List.mem_append_left _ hp))
theorem ps_for {iter : Expr} {body : List Stmt} {wi : TI} {g : TG} {tb : TS} {pos : Pos} (hp : PassesOwn (model X.prog X.w) X.A X.env X.xe) (hc : X.calm = true) (hi : PI X tg iter wi) (hg : PG X tg g) (hb : PSs X body tb)
    (hs : ∀ x,foldedSetIterable iter X.env x = pure x := by intro _; rfl) : PS X (.For tg iter body [] pos) (tFor wi g tb) := by
  intro pins s σ H D I h
  refine wpAny_For (thn (hi pins s σ H _ I h) fun v s1 h1 => thn h1 fun itv s2 h2 => ?_) hs
  obtain ⟨it,fp,tn,J,H2,e,I2,T,st2,f2,W,⟨m0,w0⟩,turn⟩ := h2
  subst e
  have stat : ∀ {H' : Hp},(∀ b ∈ fp,H' b = none) → ∀ b ∈ fp,FpOk X pins H' b := fun hn b hb => ⟨hn b hb,(f2 b hb).2⟩
  refine codeAny_forLoop_any (fun n s' => ∃ i σ' H',Inv X pins σ' H' s' ∧ tn i s'.heap ∧ (∀ b ∈ fp,H' b = none) ∧ W i n σ' H') ?_ m0 ⟨0,σ,H2,I2,st2,fun b hb => (f2 b hb).1,w0⟩
  rintro n s3 ⟨i,σ3,H3,I3,st3,fr3,w3⟩
  rcases turn i n σ3 H3 w3 with ⟨stop,qn⟩ | ⟨go,N,hN,step⟩
  · refine wpAny_passesOwn hp (thn (T.done X rfl rfl rfl hc i pins s3 σ3 H3 X.xe I3 (stat fr3) st3 stop) fun r s4 ⟨hr,I4⟩ => ?_)
    subst hr
    exact wpAny_execs_nil ⟨σ3,H3,I4,qn⟩
  · refine wpAny_passesOwn hp (thn (T.item X rfl rfl rfl hc i pins s3 σ3 H3 X.xe I3 (stat fr3) st3 go) fun r s4 ⟨u,hr,h4⟩ => ?_)
    subst hr
    refine wpAny_passesOwn hp (thn h4 fun _ s5 ⟨x,H5,I5,r5,y5,st5,fr5⟩ => ?_)
    have I5' := I5.pinned (stat fr5) (T.obj _ _ st5)
    refine wpAny_passesOwn hp (thn (hg _ s5 σ3 H5 x u _ I5' r5 (step x H5 y5)) fun _ s6 ⟨σ6,H6,I6,q6⟩ => ?_)
    refine wpAny_passesOwn hp (thn (hb _ s6 σ6 H6 _ I6 q6) fun f s7 q7 => ?_)
    have again : ∀ {σ7 : St} {H7 : Hp},Inv X (pins ++ pinsAt fp s5.heap) σ7 H7 s7 → N σ7 H7 → ∃ m,m < n ∧ ∃ i σ' H',Inv X pins σ' H' s7 ∧ tn i s7.heap ∧ (∀ b ∈ fp,H' b = none) ∧ W i m σ' H' := fun {σ7 H7} I7 n7 => by
      obtain ⟨m',hm,w7⟩ := hN σ7 H7 n7
      refine ⟨m',hm,i + 1,σ7,H7,I7.unpinned,T.keep _ _ _ st5 fun b hb o e => (I7.pin (b,o) (List.mem_append_right _ (List.mem_append_right _ (mem_pinsAt hb e)))).1,fun b hb => ?_,w7⟩
      obtain ⟨o,e,d⟩ := T.obj _ _ st5 b hb
      exact (I7.pin (b,o) (List.mem_append_right _ (List.mem_append_right _ (mem_pinsAt hb e)))).2.1
    cases f with
    | next => obtain ⟨σ7,H7,I7,n7⟩ := q7; exact again I7 n7
    | cont => obtain ⟨σ7,H7,I7,n7⟩ := q7; exact again I7 n7
    | brk => obtain ⟨σ7,H7,I7,q7⟩ := q7; exact ⟨σ7,H7,I7.unpinned,q7⟩
    | ret v => obtain ⟨x7,σ7,H7,I7,r7,q7⟩ := q7; exact ⟨x7,σ7,H7,I7.unpinned,r7,q7⟩
end
theorem for_list {K : PySem.W.Frag} {a : Addr} {xs : List V} {g : TG} {tb : TS} {D : Ends} {σ : St} {H : Hp} (Pv : Nat → St → Hp → Prop) (h0 : Pv 0 σ H) (hl : ∀ i σ H,i ≤ xs.length → Pv i σ H → SqL K H a xs)
    (hs : ∀ i x σ H,xs[i]? = some x → Pv i σ H → g x σ H fun σ2 H2 => tb { D with nx := Pv (i + 1),ct := Pv (i + 1),bk := D.nx } σ2 H2) (hd : ∀ σ H,Pv xs.length σ H → D.nx σ H) :
    ∃ W : Nat → Nat → St → Hp → Prop,(∃ m,W 0 m σ H) ∧ ∀ i m σ H,W i m σ H →
      ((Itl K a).stop i H ∧ D.nx σ H) ∨ ((Itl K a).go i H ∧ ∃ N : St → Hp → Prop,(∀ σ' H',N σ' H' → ∃ m',m' < m ∧ W (i + 1) m' σ' H') ∧ ∀ x H',(Itl K a).yld i H x H' → g x σ H' fun σ2 H2 => tb { D with nx := N,ct := N,bk := D.nx } σ2 H2) := by
  refine ⟨fun i m σ H => m = xs.length - i ∧ i ≤ xs.length ∧ Pv i σ H,⟨xs.length,by simp,Nat.zero_le _,h0⟩,?_⟩
  rintro i m σ H ⟨rfl,hi,p⟩
  have q := hl i σ H hi p
  by_cases hlt : i < xs.length
  · refine .inr ⟨⟨xs,xs[i],q,by simp [hlt]⟩,Pv (i + 1),fun σ' H' p' => ⟨xs.length - (i + 1),by omega,rfl,hlt,p'⟩,fun x H' y => ?_⟩
    obtain ⟨e,y⟩ := y
    subst e
    exact hs i x σ _ (y xs q) p
  · have e : i = xs.length := by omega
    subst e
    exact .inl ⟨⟨xs,q,Nat.le_refl _⟩,hd σ H p⟩
theorem for_range {lo : Int} {n : Nat} {g : TG} {tb : TS} {D : Ends} {σ : St} {H : Hp} (Pv : Nat → St → Hp → Prop) (h0 : Pv 0 σ H)
    (hs : ∀ i σ H,i < n → Pv i σ H → g (.int (lo + i)) σ H fun σ2 H2 => tb { D with nx := Pv (i + 1),ct := Pv (i + 1),bk := D.nx } σ2 H2) (hd : ∀ σ H,Pv n σ H → D.nx σ H) :
    ∃ W : Nat → Nat → St → Hp → Prop,(∃ m,W 0 m σ H) ∧ ∀ i m σ H,W i m σ H →
      ((Itr lo n).stop i H ∧ D.nx σ H) ∨ ((Itr lo n).go i H ∧ ∃ N : St → Hp → Prop,(∀ σ' H',N σ' H' → ∃ m',m' < m ∧ W (i + 1) m' σ' H') ∧ ∀ x H',(Itr lo n).yld i H x H' → g x σ H' fun σ2 H2 => tb { D with nx := N,ct := N,bk := D.nx } σ2 H2) := by
  refine ⟨fun i m σ H => m = n - i ∧ i ≤ n ∧ Pv i σ H,⟨n,by simp,Nat.zero_le _,h0⟩,?_⟩
  rintro i m σ H ⟨rfl,hi,p⟩
  by_cases hlt : i < n
  · refine .inr ⟨hlt,Pv (i + 1),fun σ' H' p' => ⟨n - (i + 1),by omega,rfl,hlt,p'⟩,fun x H' y => ?_⟩
    obtain ⟨e,y⟩ := y
    subst e y
    exact hs i σ _ hlt p
  · have e : i = n := by omega
    subst e
    exact .inl ⟨Nat.le_refl _,hd σ H p⟩
theorem while_by {c : TT} {tb : TS} {D : Ends} {σ : St} {H : Hp} (Pv : St → Hp → Prop) (μ : St → Hp → Nat) (h0 : Pv σ H)
    (hs : ∀ σ H,Pv σ H → c σ H fun b H1 => if b = true then tb { D with nx := fun σ' H' => Pv σ' H' ∧ μ σ' H' < μ σ H,ct := fun σ' H' => Pv σ' H' ∧ μ σ' H' < μ σ H,bk := D.nx } σ H1 else D.nx σ H1)
    (mono : ∀ σ H Q Q',(∀ b H1,Q b H1 → Q' b H1) → c σ H Q → c σ H Q') : tWhile c tb D σ H := by
  refine ⟨fun m σ H => m = μ σ H ∧ Pv σ H,⟨_,rfl,h0⟩,?_⟩
  rintro m σ H ⟨rfl,p⟩
  refine mono σ H _ _ (fun b H1 q => ?_) (hs σ H p)
  cases b with
  | true => exact ⟨_,fun σ' H' ⟨p',l⟩ => ⟨_,l,rfl,p'⟩,q⟩
  | false => exact q
end L2
namespace L2
open PySem PySem.Spec PyProof.Rows
abbrev R2 := V → V → Hp → VK → Prop
def OpR (X : Cx) (f : Value → Value → Sem Value) (r : R2) : Prop :=
  ∀ (pins : List (Addr × Obj)) (s : Shared) (σ : St) (H : Hp) (x y : V) (v u : Value) (Q : VK),Inv X pins σ H s → RelV x v → RelV y u → r x y H Q →
    wpAny (model X.prog X.w) X.A (f v u) (EP X pins σ Q) X.xe s
def UnR (X : Cx) (f : Value → Sem Value) (r : V → Hp → VK → Prop) : Prop :=
  ∀ (pins : List (Addr × Obj)) (s : Shared) (σ : St) (H : Hp) (x : V) (v : Value) (Q : VK),Inv X pins σ H s → RelV x v → r x H Q →
    wpAny (model X.prog X.w) X.A (f v) (EP X pins σ Q) X.xe s
def CallR (X : Cx) (f : Value) (r : List V → Hp → VK → Prop) : Prop :=
  ∀ (pins : List (Addr × Obj)) (s : Shared) (σ : St) (H : Hp) (xs : List V) (us : List Value) (Q : VK),Inv X pins σ H s → Vals xs us → r xs H Q →
    wpAny (model X.prog X.w) X.A (call f us) (EP X pins σ Q) X.xe s
def tOp (r : R2) (ta tb : TE) : TE := fun σ H Q => ta σ H fun x H1 => tb σ H1 fun y H2 => r x y H2 Q
def tUn (r : V → Hp → VK → Prop) (ta : TE) : TE := fun σ H Q => ta σ H fun x H1 => r x H1 Q
def rI (C : Int → Int → Prop) (g : Int → Int → V) : R2 := fun x y H Q => ∃ i j,x = .int i ∧ y = .int j ∧ C i j ∧ Q (g i j) H
def rI0 (g : Int → Int → V) : R2 := fun x y H Q => ∃ i j,x = .int i ∧ y = .int j ∧ Q (g i j) H
def rU (g : Int → V) : V → Hp → VK → Prop := fun x H Q => ∃ i,x = .int i ∧ Q (g i) H
section
variable {X : Cx} {a b c : Expr} {ta tb tc : TE} {pos : Pos}
theorem binT (ha : PE X a ta) (hb : PE X b tb) {pins : List (Addr × Obj)} {s : Shared} {σ : St} {H : Hp} {R : V → V → Hp → Prop} (I : Inv X pins σ H s)
    (h : ta σ H fun x H1 => tb σ H1 fun y H2 => R x y H2) {Q : Value → Shared → Prop} {f : Value → Value → Sem Value}
    (hf : ∀ v u s2 x y H2,Inv X pins σ H2 s2 → RelV x v → RelV y u → R x y H2 → wpAny (model X.prog X.w) X.A (f v u) Q X.xe s2) :
    wpAny (model X.prog X.w) X.A (eval a X.env) (fun v s₁ => wpAny (model X.prog X.w) X.A (eval b X.env) (fun u s₂ => wpAny (model X.prog X.w) X.A (f v u) Q X.xe s₂) X.xe s₁) X.xe s := by
  refine thn (ha pins s σ H _ I h) fun v s1 ⟨x,H1,I1,r1,q1⟩ => ?_
  refine thn (hb pins s1 σ H1 _ I1 q1) fun u s2 ⟨y,H2,I2,r2,q2⟩ => ?_
  exact hf v u s2 x y H2 I2 r1 r2 q2
theorem pe_op {op : Operator} {r : R2} (ho : OpR X (binaryOp op) r) (ha : PE X a ta) (hb : PE X b tb) : PE X (.BinOp a op b pos) (tOp r ta tb) := by
  intro pins s σ H Q I h
  exact wpAny_BinOp (binT ha hb I h fun v u s2 x y H2 I2 rx ry q => ho pins s2 σ H2 x y v u Q I2 rx ry q)
theorem pe_un {op : UnaryOp} {r : V → Hp → VK → Prop} (ho : UnR X (unaryOp op) r) (ha : PE X a ta) : PE X (.UnaryOp op a pos) (tUn r ta) := by
  intro pins s σ H Q I h
  exact UnaryOp_ (thn (ha pins s σ H _ I h) fun v s1 ⟨x,H1,I1,r1,q1⟩ => ho pins s1 σ H1 x v Q I1 r1 q1)
theorem opI {f : Value → Value → Sem Value} {C : Int → Int → Prop} {g : Int → Int → Int}
    (rule : ∀ (i j : Int) (t u : Tok) (s : Shared) (Q : Value → Shared → Prop) (E : Value → Shared → Prop),C i j → Q (.int (g i j) s.toks) { s with toks := s.toks + 1 } → wpAny (model X.prog X.w) X.A (f (.int i t) (.int j u)) Q E s) :
    OpR X f (rI C fun i j => .int (g i j)) := by
  intro pins s σ H x y v u Q I rx ry h
  obtain ⟨i,j,rfl,rfl,hc,q⟩ := h
  obtain ⟨t,rfl⟩ := rx
  obtain ⟨t',rfl⟩ := ry
  exact rule i j t t' s _ _ hc ⟨.int (g i j),H,I.tok _,⟨_,rfl⟩,q⟩
theorem opI0 {f : Value → Value → Sem Value} {g : Int → Int → Int}
    (rule : ∀ (i j : Int) (t u : Tok) (s : Shared) (Q : Value → Shared → Prop) (E : Value → Shared → Prop),Q (.int (g i j) s.toks) { s with toks := s.toks + 1 } → wpAny (model X.prog X.w) X.A (f (.int i t) (.int j u)) Q E s) :
    OpR X f (rI0 fun i j => .int (g i j)) := by
  intro pins s σ H x y v u Q I rx ry h
  obtain ⟨i,j,rfl,rfl,q⟩ := h
  obtain ⟨t,rfl⟩ := rx
  obtain ⟨t',rfl⟩ := ry
  exact rule i j t t' s _ _ ⟨.int (g i j),H,I.tok _,⟨_,rfl⟩,q⟩
theorem opB0 {f : Value → Value → Sem Value} {g : Int → Int → Bool}
    (rule : ∀ (i j : Int) (t u : Tok) (s : Shared) (Q : Value → Shared → Prop) (E : Value → Shared → Prop),Q (.bool (g i j)) s → wpAny (model X.prog X.w) X.A (f (.int i t) (.int j u)) Q E s) :
    OpR X f (rI0 fun i j => .bl (g i j)) := by
  intro pins s σ H x y v u Q I rx ry h
  obtain ⟨i,j,rfl,rfl,q⟩ := h
  obtain ⟨t,rfl⟩ := rx
  obtain ⟨t',rfl⟩ := ry
  exact rule i j t t' s _ _ ⟨.bl (g i j),H,I,rfl,q⟩
def CPow (i j : Int) : Prop := 0 ≤ j ∧ j ≤ 1000000 ∧ i.natAbs < 2 ^ 64
def CMul (i j : Int) : Prop := (-(2 ^ 64) < i ∧ i < 2 ^ 64) ∨ (-(2 ^ 64) < j ∧ j < 2 ^ 64)
theorem CMul.ok {i j : Int} (h : CMul i j) : IntMulOk i j := by
  rcases h with ⟨h1,h2⟩ | ⟨h1,h2⟩
  · exact .of_left (intBits_le_64 h1 h2)
  · exact .of_right (intBits_le_64 h1 h2)
theorem op_add : OpR X (binaryOp .Add) (rI0 fun i j => .int (i + j)) := opI0 fun _ _ _ _ _ _ _ q => add_int q
theorem op_sub : OpR X (binaryOp .Sub) (rI0 fun i j => .int (i - j)) := opI0 fun _ _ _ _ _ _ _ q => sub_int q
theorem op_mod : OpR X (binaryOp .Mod) (rI (fun _ j => 0 < j) fun i j => .int (i % j)) := opI fun i j _ _ _ _ _ hc q => by
  have h1 : (0 : Int) < j := hc
  exact mod_int' (by omega) (by rw [Int.fmod_eq_emod_of_nonneg i (by omega)]; exact q)
theorem op_pow : OpR X (binaryOp .Pow) (rI CPow fun i j => .int (i ^ j.toNat)) := opI fun _ _ _ _ _ _ _ hc q => pow_int_small hc.1 hc.2.1 hc.2.2 q
theorem unI {f : Value → Sem Value} {g : Int → Int}
    (rule : ∀ (i : Int) (t : Tok) (s : Shared) (Q : Value → Shared → Prop) (E : Value → Shared → Prop),Q (.int (g i) s.toks) { s with toks := s.toks + 1 } → wpAny (model X.prog X.w) X.A (f (.int i t)) Q E s) :
    UnR X f (rU fun i => .int (g i)) := by
  intro pins s σ H x v Q I rx h
  obtain ⟨i,rfl,q⟩ := h
  obtain ⟨t,rfl⟩ := rx
  exact rule i t s _ _ ⟨.int (g i),H,I.tok _,⟨_,rfl⟩,q⟩
theorem un_neg : UnR X (unaryOp .USub) (rU fun i => .int (-i)) := unI fun _ _ _ _ _ q => neg_int q
end
def scal : V → V → Bool
  | .non,.non => true | .non,.int _ => true | .int _,.non => true | .non,.bl _ => true | .bl _,.non => true | .non,.str _ => true | .str _,.non => true
  | .int _,.int _ => true | .bl _,.bl _ => true | .str _,.str _ => true | .byt _,.byt _ => true
  | .int _,.str _ => true | .str _,.int _ => true | .bl _,.str _ => true | .str _,.bl _ => true
  | _,_ => false
def rEq : R2 := fun x y H Q => scal x y = true ∧ Q (.bl (decide (x = y))) H
def rNe : R2 := fun x y H Q => scal x y = true ∧ Q (.bl (!decide (x = y))) H
theorem dec_int {i j : Int} : decide (V.int i = V.int j) = (i == j) := by
  rw [Bool.eq_iff_iff]
  simp
theorem dec_bl {i j : Bool} : decide (V.bl i = V.bl j) = (i == j) := by
  rw [Bool.eq_iff_iff]
  simp
theorem dec_str {i j : Str} : decide (V.str i = V.str j) = (i == j) := by
  rw [Bool.eq_iff_iff]
  simp
theorem dec_byt {i j : Array UInt8} : decide (V.byt i = V.byt j) = (i.toList == j.toList) := by
  rw [Bool.eq_iff_iff]
  cases i
  cases j
  simp
section
variable {X : Cx} {a b c : Expr} {ta tb tc : TE} {pos : Pos}
theorem fin_bl {pins : List (Addr × Obj)} {σ : St} {H : Hp} {s : Shared} {Q : VK} {k k' : Bool} (I : Inv X pins σ H s) (q : Q (.bl k) H) (e : k = k') : EP X pins σ Q (.bool k') s := by
  subst e
  exact ⟨.bl k,H,I,rfl,q⟩
theorem op_eq : OpR X (compareOp .Eq) rEq := by
  intro pins s σ H x y v u Q I rx ry h
  obtain ⟨hs,q⟩ := h
  cases x with
  | non =>
    cases rx
    cases y with
    | non => cases ry; exact PySem.EqNone.eq_none_none (fin_bl I q (by simp))
    | bl j => cases ry; exact PySem.EqNone.eq_none_bool (fin_bl I q (by simp))
    | int j => obtain ⟨t',rfl⟩ := ry; exact PySem.EqNone.eq_none_int (fin_bl I q (by simp))
    | str j => obtain ⟨t',rfl⟩ := ry; exact PySem.EqNone.eq_none_str (fin_bl I q (by simp))
    | _ => exact absurd (show false = true from hs) Bool.false_ne_true
  | bl i =>
    cases rx
    cases y with
    | non => cases ry; exact PySem.EqNone.eq_bool_none (fin_bl I q (by simp))
    | bl j => cases ry; exact eq_bool (fin_bl I q dec_bl)
    | str j => obtain ⟨t',rfl⟩ := ry; exact PySem.EqMixed.eq_bool_str (fin_bl I q (by simp))
    | _ => exact absurd (show false = true from hs) Bool.false_ne_true
  | int i =>
    obtain ⟨t,rfl⟩ := rx
    cases y with
    | non => cases ry; exact PySem.EqNone.eq_int_none (fin_bl I q (by simp))
    | int j => obtain ⟨t',rfl⟩ := ry; exact eq_int (fin_bl I q dec_int)
    | str j => obtain ⟨t',rfl⟩ := ry; exact PySem.EqMixed.eq_int_str (fin_bl I q (by simp))
    | _ => exact absurd (show false = true from hs) Bool.false_ne_true
  | str i =>
    obtain ⟨t,rfl⟩ := rx
    cases y with
    | non => cases ry; exact PySem.EqNone.eq_str_none (fin_bl I q (by simp))
    | bl j => cases ry; exact PySem.EqMixed.eq_str_bool (fin_bl I q (by simp))
    | int j => obtain ⟨t',rfl⟩ := ry; exact PySem.EqMixed.eq_str_int (fin_bl I q (by simp))
    | str j => obtain ⟨t',rfl⟩ := ry; exact eq_str (fin_bl I q dec_str)
    | _ => exact absurd (show false = true from hs) Bool.false_ne_true
  | byt i =>
    obtain ⟨t,rfl⟩ := rx
    cases y with
    | byt j => obtain ⟨t',rfl⟩ := ry; exact PySem.W.eq_bytes (fin_bl I q dec_byt)
    | _ => exact absurd (show false = true from hs) Bool.false_ne_true
  | _ => cases y <;> exact absurd (show false = true from hs) Bool.false_ne_true
theorem op_ne : OpR X (compareOp .NotEq) rNe := by
  intro pins s σ H x y v u Q I rx ry h
  obtain ⟨hs,q⟩ := h
  cases x with
  | non =>
    cases rx
    cases y with
    | non => cases ry; exact PySem.EqNone.ne_none_none (fin_bl I q (by simp))
    | bl j => cases ry; exact PySem.EqNone.ne_none_bool (fin_bl I q (by simp))
    | int j => obtain ⟨t',rfl⟩ := ry; exact PySem.EqNone.ne_none_int (fin_bl I q (by simp))
    | str j => obtain ⟨t',rfl⟩ := ry; exact PySem.EqNone.ne_none_str (fin_bl I q (by simp))
    | _ => exact absurd (show false = true from hs) Bool.false_ne_true
  | bl i =>
    cases rx
    cases y with
    | non => cases ry; exact PySem.EqNone.ne_bool_none (fin_bl I q (by simp))
    | bl j => cases ry; exact ne_bool (fin_bl I q (congrArg not dec_bl))
    | str j => obtain ⟨t',rfl⟩ := ry; exact PySem.EqMixed.ne_bool_str (fin_bl I q (by simp))
    | _ => exact absurd (show false = true from hs) Bool.false_ne_true
  | int i =>
    obtain ⟨t,rfl⟩ := rx
    cases y with
    | non => cases ry; exact PySem.EqNone.ne_int_none (fin_bl I q (by simp))
    | int j => obtain ⟨t',rfl⟩ := ry; exact ne_int (fin_bl I q (congrArg not dec_int))
    | str j => obtain ⟨t',rfl⟩ := ry; exact PySem.EqMixed.ne_int_str (fin_bl I q (by simp))
    | _ => exact absurd (show false = true from hs) Bool.false_ne_true
  | str i =>
    obtain ⟨t,rfl⟩ := rx
    cases y with
    | non => cases ry; exact PySem.EqNone.ne_str_none (fin_bl I q (by simp))
    | bl j => cases ry; exact PySem.EqMixed.ne_str_bool (fin_bl I q (by simp))
    | int j => obtain ⟨t',rfl⟩ := ry; exact PySem.EqMixed.ne_str_int (fin_bl I q (by simp))
    | str j => obtain ⟨t',rfl⟩ := ry; exact ne_str (fin_bl I q (congrArg not dec_str))
    | _ => exact absurd (show false = true from hs) Bool.false_ne_true
  | byt i =>
    obtain ⟨t,rfl⟩ := rx
    cases y with
    | byt j => obtain ⟨t',rfl⟩ := ry; exact PySem.W.ne_bytes (fin_bl I q (congrArg not dec_byt))
    | _ => exact absurd (show false = true from hs) Bool.false_ne_true
  | _ => cases y <;> exact absurd (show false = true from hs) Bool.false_ne_true
theorem op_lt : OpR X (compareOp .Lt) (rI0 fun i j => .bl (decide (i < j))) := opB0 fun _ _ _ _ _ _ _ q => lt_int q
theorem op_gt : OpR X (compareOp .Gt) (rI0 fun i j => .bl (decide (j < i))) := opB0 fun _ _ _ _ _ _ _ q => gt_int q
theorem nomark (b : Expr) {op : CmpOp} (h : op ≠ .In := by decide) (h2 : op ≠ .NotIn := by decide) : behindInMarks op b = false := by
  have e1 : (op == CmpOp.In) = false := by cases op <;> first | rfl | exact absurd rfl h
  have e2 : (op == CmpOp.NotIn) = false := by cases op <;> first | rfl | exact absurd rfl h2
  cases b <;> simp [behindInMarks,e1,e2]
theorem pe_cmpR {op : CmpOp} {r : R2} (ho : OpR X (compareOp op) r) (ha : PE X a ta) (hb : PE X b tb) (hm : behindInMarks op b = false) : PE X (.Compare a [op] [b] pos) (tOp r ta tb) := by
  intro pins s σ H Q I h
  exact wpAny_Compare1 (binT ha hb I h fun v u s2 x y H2 I2 rx ry q => ho pins s2 σ H2 x y v u Q I2 rx ry q) hm
def tTest (t : TE) : TT := fun σ H Q => t σ H fun x H' => ∃ k,x = .bl k ∧ Q k H'
theorem pt_cmpR {op : CmpOp} {r : R2} (ho : OpR X (compareOp op) r) (ha : PE X a ta) (hb : PE X b tb) (hm : behindInMarks op b = false) : PT X (.Compare a [op] [b] pos) (tTest (tOp r ta tb)) := by
  intro pins s σ H Q I h
  refine wpAny_isTrue_Compare1 (thn (ha pins s σ H _ I h) fun v s1 ⟨x,H1,I1,r1,q1⟩ => thn (hb pins s1 σ H1 _ I1 q1) fun u s2 ⟨y,H2,I2,r2,q2⟩ =>
    thn (ho pins s2 σ H2 x y v u _ I2 r1 r2 q2) fun c s3 ⟨z,H3,I3,r3,k,e,q3⟩ => ?_) hm
  subst e
  cases r3
  exact wpAny_truthy_bool ⟨H3,I3,q3⟩
theorem line63 : (sizeLine : Nat) < 2 ^ 63 := by rw [sizeLine_eq]; decide
theorem vals1 {x : V} {us : List Value} (r : Vals [x] us) : ∃ u,us = [u] ∧ RelV x u := by
  cases r with
  | cons r1 r2 => cases r2; exact ⟨_,rfl,r1⟩
theorem vals2 {x y : V} {us : List Value} (r : Vals [x,y] us) : ∃ u w',us = [u,w'] ∧ RelV x u ∧ RelV y w' := by
  cases r with
  | cons r1 r2 =>
    cases r2 with
    | cons r3 r4 => cases r4; exact ⟨_,_,rfl,r1,r3⟩
theorem call_abs : CallR X (.builtin "abs") (fun xs H Q => ∃ i,xs = [.int i] ∧ Q (.int (if i < 0 then -i else i)) H) := by
  intro pins s σ H xs us Q I r h
  obtain ⟨i,rfl,q⟩ := h
  obtain ⟨u,rfl,t,rfl⟩ := vals1 r
  exact call_abs_int fun u tk => ⟨.int (if i < 0 then -i else i),H,I.tok _,⟨_,rfl⟩,q⟩
end
end L2
namespace L2
open PySem PySem.Spec PyProof.Rows
structure ObjM (h : Heap) (x dx C : Addr) (mA : Str → Option Value) : Prop where
  obj : h.get? x = some (PySem.W.instObj C dx)
  ns : h.Ns1 dx mA
  ne : dx ≠ x
theorem lookIn_ns {h : Heap} {dx : Addr} {mA : Str → Option Value} (n : h.Ns1 dx mA) : ∃ od,h.get? dx = some od ∧ ∀ name,PySem.W.lookIn name od = some (mA name) := by
  obtain ⟨o,es,ep,ho,hd,hk,_,hm⟩ := n
  refine ⟨o,ho,fun name => ?_⟩
  have e := hm name
  unfold nsFind findBy at e
  rw [← Array.find?_toList] at e
  unfold PySem.W.lookIn
  rw [hd]
  dsimp only
  split
  · rename_i y q
    rw [q] at e
    exact congrArg some e
  · rename_i q
    rw [q] at e
    have a : es.toList.any (·.refKey) = false := by
      rw [List.any_eq_false]
      intro y hy
      obtain ⟨z,t,hkey⟩ := hk y (Array.mem_toList_iff.mp hy)
      simp [DictEntry.refKey,hkey]
    have a' : ¬ es.toList.any (·.refKey) = true := by rw [a]; exact Bool.false_ne_true
    rw [if_neg a']
    exact congrArg some e
theorem ObjM.look {h : Heap} {x dx C : Addr} {mA : Str → Option Value} (I : ObjM h x dx C mA) : ∃ od,PySem.W.InstAt h x (PySem.W.instObj C dx) C (some od) ∧ ∀ name,PySem.W.lookIn name od = some (mA name) :=
  let ⟨od,ho,hl⟩ := lookIn_ns I.ns
  ⟨od,⟨I.obj,rfl,rfl,ho⟩,hl⟩
section
variable {prog : Program} {w : World} {A : Around} {E : Value → Shared → Prop} {s : Shared} {K : PySem.W.Frag} {x dx C f : Addr} {mA : Str → Option Value} {name : Str} {v : Value}
end
section
variable {P : Program} {w : World} {H H' : Hp} {h h' : Heap} {a C dx : Addr} {fs fs' : List (Str × V)}
theorem ins_get (hok : HOk P w H h) (e : H a = some (.ins C dx fs)) : ∃ mA,ObjM h a dx C mA ∧ (∀ f,RelO (fs.lookup f) (mA f)) ∧ PySem.Within mA (fs.map (·.1)) ∧ fs.length ≤ 1000 ∧ H dx = some (.own a) := by
  obtain ⟨d,z,ne,ob,mA,n,r,q⟩ := (show ObjOk P w H h a (.ins C dx fs) from hok a _ e)
  exact ⟨mA,⟨ob,n,ne⟩,r,q,z,d⟩
end
structure Cls (K : PySem.W.Frag) (C : Addr) : Prop where
  pg : PySem.W.plainGet K C Str.empty = true
  hd : PySem.W.hasDictIn K C = true
  po : PySem.W.plainOver K C = true
  sa : PySem.W.findIn K (.ref C) "__setattr__" = some (some (.builtin "object.__setattr__"))
theorem Cls.get {K : PySem.W.Frag} {C : Addr} (c : Cls K C) (f : Str) : PySem.W.plainGet K C f = true := c.pg
section
variable {X : Cx} {pins : List (Addr × Obj)} {σ : St} {H : Hp} {s : Shared} {a C dx : Addr} {fs : List (Str × V)} {f : Str} {v : V} {A : Around} {E : Value → Shared → Prop}
end
section
variable {X : Cx} {o e value : Expr} {f : Str} {pos pos' tpos : Pos} {ta tv : TE}
end
section
variable {X : Cx} {pins : List (Addr × Obj)} {σ : St} {H : Hp} {s : Shared} {A : Around} {E : Value → Shared → Prop} {Q : Value → Shared → Prop} {c : Value} {b : Bool}
inductive TyOf (K : PySem.W.Frag) (H : Hp) : V → Value → Prop where
  | non : TyOf K H .non (.type "NoneType")
  | bl (x : Bool) : TyOf K H (.bl x) (.type "bool")
  | int (i : Int) : TyOf K H (.int i) (.type "int")
  | str (x : Str) : TyOf K H (.str x) (.type "str")
  | flt (x : UInt64) : TyOf K H (.flt x) (.type "float")
  | lst {a : Addr} {xs : List V} (e : H a = some (.lst xs)) : TyOf K H (.ref a) (.type "list")
  | frz {a : Addr} {o : Obj} {xs : List V} (e : H a = some (.frz o (.lst xs))) : TyOf K H (.ref a) (.type "list")
  | tup {a : Addr} {xs : List V} (e : H a = some (.tup xs)) : TyOf K H (.ref a) (.type "tuple")
  | dK {a : Addr} {kvs : List (Key × V)} (e : H a = some (.dK kvs)) : TyOf K H (.ref a) (.type "dict")
  | dT {a : Addr} {kvs : List (List Key × V)} (e : H a = some (.dT kvs)) : TyOf K H (.ref a) (.type "dict")
  | ins {a C dx : Addr} {fs : List (Str × V)} (e : H a = some (.ins C dx fs)) (cl : Cls K C) (ha : PySem.W.findIn K (.ref C) "__class__" = some (some (.builtin "object.__class__")))
      (hn : PySem.W.specialIn K (.builtin "object.__class__") "__get__" = some (some (.builtin "getset_descriptor.__get__"))) (htk : PySem.W.takesIn K (.builtin "object.__class__") = some true)
      (hm : PySem.W.mroIn K C (.type "object") = some true) : TyOf K H (.ref a) (.ref C)
theorem isinst_ok {x : V} {u t : Value} (I : Inv X pins σ H s) (rx : RelV x u) (ty : TyOf X.K H x t) (e : PySem.W.kitOne X.K t c = some b) (h : ∀ tk,Q (.bool b) { s with toks := tk }) :
    wpAny (model X.prog X.w) A (call (.builtin "isinstance") [u,c]) Q E s := by
  cases ty with
  | non => cases (show u = Value.none from rx); exact PySem.W.kia_one PySem.W.kitx_none I.kIn True.intro e (fun z => nomatch z) h
  | bl y => cases (show u = Value.bool y from rx); exact PySem.W.kia_one PySem.W.kitx_bool I.kIn True.intro e (fun z => nomatch z) h
  | int i => obtain ⟨t,q⟩ := (show ∃ t,u = Value.int i t from rx); cases q; exact PySem.W.kia_one PySem.W.kitx_int I.kIn True.intro e (fun z => nomatch z) h
  | str y => obtain ⟨t,q⟩ := (show ∃ t,u = Value.str y t from rx); cases q; exact PySem.W.kia_one PySem.W.kitx_str I.kIn True.intro e (fun z => nomatch z) h
  | flt y => obtain ⟨t,q⟩ := (show ∃ t,u = Value.float y t from rx); cases q; exact PySem.W.kia_one PySem.W.kitx_float I.kIn True.intro e (fun z => nomatch z) h
  | @lst a xs ea =>
    cases (show u = Value.ref a from rx)
    obtain ⟨_,_,n,_,h1⟩ := (show ObjOk X.prog X.w H s.heap a (.lst xs) from I.hok a _ ea)
    exact PySem.W.kia_one PySem.W.kitx_list I.kIn ⟨_,h1,rfl⟩ e (fun z => nomatch z) h
  | @frz a ob xs ea =>
    cases (show u = Value.ref a from rx)
    obtain ⟨_,_,_,n,_,h1⟩ := (show ObjOk X.prog X.w H s.heap a (.frz ob (.lst xs)) from I.hok a _ ea)
    exact PySem.W.kia_one PySem.W.kitx_list I.kIn ⟨_,h1,rfl⟩ e (fun z => nomatch z) h
  | @tup a xs ea =>
    cases (show u = Value.ref a from rx)
    obtain ⟨_,_,_,p⟩ := (show ObjOk X.prog X.w H s.heap a (.tup xs) from I.hok a _ ea)
    obtain ⟨o,h1,h2,_⟩ := p
    exact PySem.W.kia_one PySem.W.kitx_tuple I.kIn ⟨o,h1,h2⟩ e (fun z => nomatch z) h
  | @dK a kvs ea =>
    cases (show u = Value.ref a from rx)
    obtain ⟨_,_,vs,_,p⟩ := (show ObjOk X.prog X.w H s.heap a (.dK kvs) from I.hok a _ ea)
    obtain ⟨o,es,ep,h1,h2,_⟩ := p
    exact PySem.W.kia_one PySem.W.kitx_dict I.kIn ⟨o,h1,h2.1⟩ e (fun z => nomatch z) h
  | @dT a kvs ea =>
    cases (show u = Value.ref a from rx)
    obtain ⟨_,_,xs,_,o,es,ep,h1,h2,_⟩ := (show ObjOk X.prog X.w H s.heap a (.dT kvs) from I.hok a _ ea)
    exact PySem.W.kia_one PySem.W.kitx_dict I.kIn ⟨o,h1,h2.1⟩ e (fun z => nomatch z) h
  | @ins a C dx fs ea cl ha hn htk hm =>
    cases (show u = Value.ref a from rx)
    obtain ⟨mA,O,_⟩ := ins_get I.hok ea
    obtain ⟨od,J,_⟩ := O.look
    exact PySem.W.kia_one (PySem.W.kitx_own (cl.get _) cl.hd ha hn htk hm) I.kIn J e (fun z => nomatch z) h
end
end L2
namespace L2
open PySem PySem.Spec PyProof.Rows
structure Room (k : Nat) (A : Around) : Prop where
  hd : A.handled = none
  dp : A.depth + 3 * k + 5 < recursionLimit
  un : A.units + 16 * k + 200 < cLine
theorem Room.mono {j k : Nat} {A : Around} (r : Room k A) (h : j ≤ k) : Room j A := ⟨r.hd,by have := r.dp; omega,by have := r.un; omega⟩
theorem Room.deeper {k : Nat} {A : Around} (r : Room (k + 1) A) (env : Env) : Room k (A.deeper env) :=
  ⟨r.hd,by have := r.dp; show A.depth + 1 + 3 * k + 5 < _; omega,by have := r.un; show A.units + 3 + 16 * k + 200 < _; omega⟩
theorem Room.depth {k : Nat} {A : Around} (r : Room k A) : A.depth < recursionLimit := by have := r.dp; omega
def tNil : TA := fun _ H Q => Q [] H
def tCons (ta : TE) (tr : TA) : TA := fun σ H Q => ta σ H fun x H1 => tr σ H1 fun xs H2 => Q (x :: xs) H2
section
variable {X : Cx} {e : Expr} {es : List Expr} {te : TE} {t : TA} {pos : Pos}
theorem pa_nil : PA X [] tNil := fun _ _ _ _ H Q I h => Calls.spliced_nil ⟨[],H,I,.nil,h⟩
theorem pa_cons (ha : PE X e te) (hr : PA X es t) (hs : starEach (e :: es) X.env = (false,eval e X.env) :: starEach es X.env := by rfl) : PA X (e :: es) (tCons te t) := by
  intro pos pins s σ H Q I h
  rw [hs]
  show wpAny _ _ (spliced ((false,eval e X.env) :: backTo pos (starEach es X.env))) _ _ s
  refine Calls.spliced_cons (thn (ha pins s σ H _ I h) fun u s1 ⟨x,H1,I1,r1,q1⟩ => ?_)
  exact thn (hr pos pins s1 σ H1 _ I1 q1) fun us s2 ⟨xs,H2,I2,r2,q2⟩ => ⟨x :: xs,H2,I2,.cons r1 r2,q2⟩
def tLst (t : TA) : TE := fun σ H Q => t σ H fun xs H1 => xs.length ≤ sizeLine ∧ ∀ p,H1 p = none → Q (.ref p) (upd H1 p (.lst xs))
theorem pe_lst (h : PA X es t) : PE X (.List es pos) (tLst t) := by
  intro pins s σ H Q I hq
  refine wpAny_List_spliced (thn (h pos pins s σ H _ I hq) fun us s1 ⟨xs,H1,I1,r,z,q⟩ => ⟨by rw [← r.length]; exact z,?_⟩)
  have hf : H1 s1.heap.objs.size = none := I1.hok.fresh (Nat.le_refl _)
  refine ⟨.ref s1.heap.objs.size,upd H1 s1.heap.objs.size (.lst xs),I1.laid (t' := s1.toks) (fun b u e => Heap.get?_push_of_some _ e) (Nat.le_refl _) ?_,rfl,q _ hf⟩
  exact ⟨z,us,0,r,Heap.get?_push_size _ rfl⟩
end
abbrev Sp := List V → Hp → VK → XK → Prop
abbrev CXT := List Env → Hp → Shared → XK → Value → Shared → Prop
structure Env0 (P : Program) (w : World) (K : PySem.W.Frag) (mg : Str → Option Value) (base : Heap) (A : Around) (outer : List Env) (s : Shared) (H : Hp) : Prop where
  frames : A.frames = some outer
  mod : Mod K mg base
  bs : ∀ b o,base.get? b = some o → s.heap.get? b = some o ∧ H b = none
  bsz : base.objs.size ≤ s.heap.objs.size
  funs : s.heap.FunFrames base outer
  frf : ∀ b ∈ frs outer,H b = none
  hok : HOk P w H s.heap
  bare : AllBare s.gens
def CE (outer : List Env) (P : Program) (w : World) (H : Hp) (s : Shared) (Q : VK) (u : Value) (s' : Shared) : Prop :=
  ∃ v H',s'.os = s.os ∧ AllBare s'.gens ∧ Un (frs outer) [] H H' s.heap s'.heap ∧ HOk P w H' s'.heap ∧ RelV v u ∧ Q v H'
def CR (CX : CXT) (outer : List Env) (P : Program) (w : World) (H : Hp) (s : Shared) (Q : VK) (E : XK) (r : Result) (s' : Shared) : Prop :=
  match r with
  | .ok (.ret u) => CE outer P w H s Q u s'
  | .ok _ => False
  | .error e => CX outer H s E e s'
structure FnOk (P : Program) (w : World) (K : PySem.W.Frag) (mg : Str → Option Value) (base : Heap) (CX : CXT) (k : Nat) (f : Addr) (fd : FuncData) (ps : List Str) (sp : Sp) : Prop where
  len : ∀ vs H Q E,sp vs H Q E → vs.length = ps.length
  run : ∀ (A : Around) (outer : List Env) (s : Shared) (H : Hp) (args : Args) (us : List Value) (vs : List V) (Q : VK) (E : XK),Room k A → Env0 P w K mg base A outer s H → BindsTo s fd args (ps.zip us) → Vals vs us → sp vs H Q E →
    codeAny (model P w) A (.call (.ref f) args) (CR CX outer P w H s Q E) s
section
variable {X : Cx} {pins : List (Addr × Obj)} {σ : St} {H : Hp} {s s' : Shared}
theorem Inv.env0 (I : Inv X pins σ H s) : Env0 X.prog X.w X.K X.mg X.base X.A X.stack s H :=
  ⟨I.ok.frames,I.ok.mod,I.bs,Nat.le_trans I.ok.bsz I.sz,I.stack,I.stkFree,I.hok,I.bare⟩
theorem Inv.after {Q : VK} {u : Value} (I : Inv X pins σ H s) (h : CE X.stack X.prog X.w H s Q u s') : EP X pins σ Q u s' := by
  obtain ⟨v,H',os,bare,un,hok,r,q⟩ := h
  obtain ⟨hh,g,d,t,os'⟩ := s'
  obtain rfl : os' = s.os := os
  exact ⟨v,H',I.call (h' := hh) (g' := g) (d' := d) (t' := t) (ch := []) un hok bare (fun b z => absurd z (by simp)),r,q⟩
end
def tCall (sp : Sp) (dvs : List V) (E : XK) (t : TA) : TE := fun σ H Q => t σ H fun vs H1 => sp (vs ++ dvs) H1 Q E
def Binds (K : PySem.W.Frag) (fd : FuncData) (ps : List Str) (ds : List Value) : Prop :=
  ∀ (s : Shared) (us : List Value),K.In s.heap → (us ++ ds).length = ps.length → BindsTo s fd ⟨us,[]⟩ (ps.zip (us ++ ds))
theorem Binds.all {K : PySem.W.Frag} {fd : FuncData} {ps : List Str} (h : ∀ us : List Value,us.length = ps.length → bindArgs fd ⟨us,[]⟩ = pure (ps.zip us)) : Binds K fd ps [] := fun s us _ hl => by
  rw [List.append_nil] at hl ⊢
  exact .of_eq (h us hl)
def Passes (CX : CXT) (X : Cx) (E : XK) : Prop := ∀ (pins : List (Addr × Obj)) (σ : St) (H : Hp) (s : Shared) (e : Value) (s' : Shared),Inv X pins σ H s → CX X.stack H s E e s' → X.xe e s'
section
variable {X : Cx} {CX : CXT} {k : Nat} {f C : Addr} {fd : FuncData} {ps : List Str} {sp : Sp} {dvs : List V} {ds : List Value} {E : XK} {x m : Str} {p pos apos : Pos} {e o : Expr} {es : List Expr} {ta : TE} {t : TA}
theorem run_fn {pins : List (Addr × Obj)} {σ : St} {H : Hp} {s : Shared} {Q : VK} {us : List Value} {vs : List V} (F : FnOk X.prog X.w X.K X.mg X.base CX k f fd ps sp) (hr : Room k X.A) (hb : Binds X.K fd ps ds) (hd : Vals dvs ds) (hx : Passes CX X E)
    (I : Inv X pins σ H s) (r : Vals vs us) (h : sp (vs ++ dvs) H Q E) : wpAny (model X.prog X.w) X.A (call (.ref f) us) (EP X pins σ Q) X.xe s := by
  have r2 : Vals (vs ++ dvs) (us ++ ds) := r.append hd
  have hl : (us ++ ds).length = ps.length := by rw [← r2.length]; exact F.len _ _ _ _ h
  refine wpAny_call (codeAny_mono (F.run X.A X.stack s H ⟨us,[]⟩ (us ++ ds) (vs ++ dvs) Q E hr I.env0 (hb s us I.kIn hl) r2 h) fun r s' hq => ?_)
  cases r with
  | error e => exact hx pins σ H s e s' I hq
  | ok fl =>
    cases fl with
    | ret u => exact I.after hq
    | next => exact False.elim hq
    | brk => exact False.elim hq
    | cont => exact False.elim hq
theorem pe_call (F : FnOk X.prog X.w X.K X.mg X.base CX k f fd ps sp) (hr : Room k X.A) (hg : Gl X x) (hm : X.mg x = some (.ref f)) (hk : PySem.W.keepIn X.K (.ref f) = true) (hb : Binds X.K fd ps ds) (hd : Vals dvs ds) (hx : Passes CX X E)
    (ha : PA X (e :: es) t) (hdb : (x == ("__debug__" : Str)) = false := by decide) (he : starEach (e :: es) X.env = (false,eval e X.env) :: starEach es X.env := by rfl) (hpl : (backTo pos (starEach es X.env)).any (·.1) = false := by rfl) :
    PE X (.Call (.Name x p) (e :: es) [] pos) (tCall sp dvs E t) := by
  intro pins s σ H Q I h
  refine wpAny_Call_Name_kw (ld_glob I hg hm ?_ hdb)
  refine PySem.W.callWith_K (h₀ := X.base) I.ok.mod.kin hk (thn (ha pos pins s σ H _ I h) fun us s1 ⟨vs,H1,I1,r,q⟩ => ⟨I1.kIn,?_⟩) he hpl
  exact run_fn F hr hb hd hx I1 r q
theorem pe_call0 (F : FnOk X.prog X.w X.K X.mg X.base CX k f fd ps sp) (hr : Room k X.A) (hg : Gl X x) (hm : X.mg x = some (.ref f)) (hk : PySem.W.keepIn X.K (.ref f) = true) (hb : Binds X.K fd ps ds) (hd : Vals dvs ds) (hx : Passes CX X E)
    (hdb : (x == ("__debug__" : Str)) = false := by decide) : PE X (.Call (.Name x p) [] [] pos) (tCall sp dvs E tNil) := by
  intro pins s σ H Q I h
  refine wpAny_Call_Name_kw (ld_glob I hg hm ?_ hdb)
  exact PySem.W.callWith_K0 I.kIn hk (run_fn (us := []) F hr hb hd hx I .nil h)
end
section
variable {X : Cx} {CX : CXT} {k : Nat} {f C : Addr} {fd : FuncData} {ps ks : List Str} {sp : Sp} {E : XK} {x m : Str} {p pos apos kpos : Pos} {e o : Expr} {es : List Expr} {kws : List Keyword} {te ta : TE} {t tk : TA} {nm : Option Str}
variable {g : List Value → List Value → List Value} {gV : List V → List V → List V}
end
structure FnScope (N P : List Str) (sc : Scope) : Prop where
  kind : sc.kind = .function
  co : sc.isCoroutine = false
  gen : sc.isGenerator = false
  nd : N.Nodup
  pre : N.take P.length = P
  par : ∀ x ∈ P,sc.names.lookup x = some .local ∨ sc.names.lookup x = some .cell
  nofree : ∀ y ∈ sc.names,y.2 ≠ .free
theorem bindL_out {kindOf : Str → Option NameKind} {x : Str} : ∀ {binds : List (Str × Value)} {m : Str → Option Value},(∀ v,(x,v) ∉ binds) → bindL kindOf binds m x = m x
  | [],_,_ => rfl
  | (n,v) :: r,m,h => by
    unfold bindL
    rw [bindL_out fun w hw => h w (List.mem_cons_of_mem _ hw)]
    split
    · have : x ≠ n := by rintro rfl; exact h v List.mem_cons_self
      simp [this]
    · rfl
theorem bindC_out {kindOf : Str → Option NameKind} {x : Str} : ∀ {binds : List (Str × Value)} {m : Str → Option Value},(∀ v,(x,v) ∉ binds) → bindC kindOf binds m x = m x
  | [],_,_ => rfl
  | (n,v) :: r,m,h => by
    unfold bindC
    rw [bindC_out fun w hw => h w (List.mem_cons_of_mem _ hw)]
    split
    · rfl
    · have : x ≠ n := by rintro rfl; exact h v List.mem_cons_self
      simp [this]
theorem bindL_get {kindOf : Str → Option NameKind} {x : Str} {v : Value} : ∀ {P : List Str} {vs : List Value} {i : Nat} {m : Str → Option Value},P.Nodup → P[i]? = some x → vs[i]? = some v → kindOf x = some .local →
    bindL kindOf (P.zip vs) m x = some v
  | [],_,_,_,_,h,_,_ => by simp at h
  | _ :: _,[],_,_,_,_,h,_ => by simp at h
  | p :: P,w :: vs,0,m,nd,h1,h2,hk => by
    simp at h1 h2; subst h1; subst h2
    show bindL kindOf ((p,w) :: P.zip vs) m p = _
    unfold bindL
    rw [bindL_out fun v hv => (List.nodup_cons.mp nd).1 (List.of_mem_zip hv).1,if_pos hk]
    simp
  | p :: P,w :: vs,i + 1,m,nd,h1,h2,hk => by
    show bindL kindOf ((p,w) :: P.zip vs) m x = _
    unfold bindL
    exact bindL_get (i := i) (List.nodup_cons.mp nd).2 (by simpa using h1) (by simpa using h2) hk
theorem bindC_get {kindOf : Str → Option NameKind} {x : Str} {v : Value} : ∀ {P : List Str} {vs : List Value} {i : Nat} {m : Str → Option Value},P.Nodup → P[i]? = some x → vs[i]? = some v → kindOf x ≠ some .local →
    bindC kindOf (P.zip vs) m x = some v
  | [],_,_,_,_,h,_,_ => by simp at h
  | _ :: _,[],_,_,_,_,h,_ => by simp at h
  | p :: P,w :: vs,0,m,nd,h1,h2,hk => by
    simp at h1 h2; subst h1; subst h2
    show bindC kindOf ((p,w) :: P.zip vs) m p = _
    unfold bindC
    rw [bindC_out fun v hv => (List.nodup_cons.mp nd).1 (List.of_mem_zip hv).1,if_neg hk]
    simp
  | p :: P,w :: vs,i + 1,m,nd,h1,h2,hk => by
    show bindC kindOf ((p,w) :: P.zip vs) m x = _
    unfold bindC
    exact bindC_get (i := i) (List.nodup_cons.mp nd).2 (by simpa using h1) (by simpa using h2) hk
def start (N : List Str) (vs : List V) : St := vs.map some ++ List.replicate (N.length - vs.length) none
def cxOf (CX : CXT) (P : Program) (w : World) (K : PySem.W.Frag) (mg : Str → Option Value) (base : Heap) (N : List Str) (qual : Str) (scope : Scope) (f : Addr) (cd : Value) (A : Around) (outer : List Env) (s : Shared) (H : Hp) (E : XK) : Cx where
  prog := P
  w := w
  K := K
  mg := mg
  base := base
  A := A.deeper (envOfC qual scope s.heap.objs.size f cd)
  N := N
  s₀ := s
  H₀ := H
  env := envOfC qual scope s.heap.objs.size f cd
  outer := outer
  stack := envOfC qual scope s.heap.objs.size f cd :: outer
  ex := []
  calm := true
  fn := fun _ => true
  pn := []
  xe := fun e s' => wpAny (model P w) (A.deeper (envOfC qual scope s.heap.objs.size f cd)) (leaving (envOfC qual scope s.heap.objs.size f cd) e) (fun _ s'' => CX outer H s E e s'') (fun e' s'' => CX outer H s E e' s'') s'
theorem cell_has {sc : Scope} {n : Nat} {x : Str} (h : sc.names.lookup x = some .cell) : ∃ c,(cellsFrom n sc.names []).lookup x = some c := by
  have q := PySem.W.cellsFrom_some sc.names n [] (.inl h)
  exact Option.isSome_iff_exists.mp q
theorem inv_start {CX : CXT} {P : Program} {w : World} {K : PySem.W.Frag} {mg : Str → Option Value} {base : Heap} {N ps : List Str} {qual : Str} {scope : Scope} {f : Addr} {cd : Value} {A : Around} {outer : List Env} {s s1 : Shared} {H : Hp} {E : XK} {us : List Value} {vs : List V}
    (S : FnScope N ps scope) (hd : A.handled = none) (e0 : Env0 P w K mg base A outer s H) (hl : vs.length = ps.length) (r : Vals vs us)
    (x : InCallC s s.heap.objs.size (bindL (envOfC qual scope s.heap.objs.size f cd).kindOf (ps.zip us) fun _ => none) (cellsFrom (s.heap.objs.size + 1) scope.names []) (bindC (envOfC qual scope s.heap.objs.size f cd).kindOf (ps.zip us) fun _ => none) s1) :
    Inv (cxOf CX P w K mg base N qual scope f cd A outer s H E) [] (start N vs) H s1 := by
  have hpl : ps.length ≤ N.length := by have := congrArg List.length S.pre; rw [List.length_take] at this; omega
  obtain ⟨h1,tk,rfl,hk⟩ := x.done
  have noA : ∀ b : Addr,b ∉ (cxOf CX P w K mg base N qual scope f cd A outer s H E).ex := fun b z => absurd (show b ∈ ([] : List Addr) from z) (by simp)
  refine ⟨⟨e0.mod,S.kind,rfl,rfl,Nat.le_refl _,fun y z c h1 h2 => ?_,fun y hy => ?_,fun y c _ h => ?_,fun _ => hd,Around.frames_deeper e0.frames,.inr ⟨rfl,rfl⟩,fun b z => absurd z (noA b),e0.bs,e0.bsz,fun b _ _ => noA b,fun b z => absurd z (noA b),e0.funs,e0.frf⟩,
    rfl,e0.bare,Un.kept hk,⟨_,x.toInCall.ns,fun i y v h1 h2 h3 => ?_⟩,fun y c h => ⟨_,x.cell y c h⟩,e0.hok.fresh (Nat.le_refl _),fun y c h => ?_,fun p hp => absurd (show p ∈ ([] : List (Addr × Obj)) from hp) (by simp),e0.hok.kept hk,?_⟩
  · exact name_of_addr x.apart (PySem.mem_of_lookup h1) (PySem.mem_of_lookup h2)
  · have hy : scope.names.lookup y = some .cell ∨ scope.names.lookup y = some .free := hy
    rcases hy with hy | hy
    · exact cell_has hy
    · exact absurd rfl (S.nofree _ (PySem.mem_of_lookup hy))
  · exact Nat.le_of_lt (x.above y c (PySem.mem_of_lookup h))
  · have hi : i < vs.length := by
      unfold start at h2
      by_cases hi : i < vs.length
      · exact hi
      · rw [List.getElem?_append_right (by simpa using hi)] at h2
        rw [List.getElem?_replicate] at h2
        split at h2 <;> cases h2
    have ha : vs[i]? = some v := by
      unfold start at h2
      rw [List.getElem?_append_left (by simpa using hi),List.getElem?_map] at h2
      cases e : vs[i]? with
      | none => rw [e] at h2; cases h2
      | some a => rw [e] at h2; cases h2; rfl
    obtain ⟨u,hu,rv⟩ := r.get ha
    have hp : ps[i]? = some y := by
      rw [← S.pre,List.getElem?_take_of_lt (by omega)]; exact h1
    have ndP : ps.Nodup := by rw [← S.pre]; exact S.nd.sublist (List.take_sublist _ _)
    refine ⟨u,rv,?_⟩
    rcases S.par y (List.mem_of_getElem? hp) with k | k
    · exact .inl ⟨k,bindL_get ndP hp hu k⟩
    · obtain ⟨c,e⟩ := cell_has (n := s.heap.objs.size + 1) k
      refine .inr ⟨.inl k,c,e,?_⟩
      have q := x.cell y c e
      rw [bindC_get ndP hp hu (by show scope.names.lookup y ≠ _; rw [k]; decide)] at q
      exact q
  · exact e0.hok.fresh (Nat.le_of_lt (x.above y c (PySem.mem_of_lookup h)))
  · unfold start
    show _ = N.length
    rw [List.length_append,List.length_map,List.length_replicate]
    omega
theorem fn_of {CX : CXT} {P : Program} {w : World} {K : PySem.W.Frag} {mg : Str → Option Value} {base : Heap} {k : Nat} {f : Addr} {name qual : Str} {params : Arguments} {body : List Stmt} {scope : Scope} {dV kV doc pm cdv ct oc : Value} {an od : Option Addr}
    {osl : Array (Option Value)} {N ps : List Str} {sp : Sp} (lk : K.lookup f = some ⟨oc,od,.func (PySem.W.fnOf name qual params body scope dV kV doc pm an cdv ct),osl⟩) (hcd : PySem.W.codeIn K cdv qual = true) (S : FnScope N ps scope)
    (len : ∀ vs H Q E,sp vs H Q E → vs.length = ps.length)
    (hbody : ∀ (A : Around) (outer : List Env) (s : Shared) (H : Hp) (vs : List V) (Q : VK) (E : XK),Room k (A.deeper (envOfC qual scope s.heap.objs.size f cdv)) → sp vs H Q E →
      ∃ t,PSs (cxOf CX P w K mg base N qual scope f cdv A outer s H E) body t ∧ t { nx := fun _ H' => Q .non H',rt := Q } (start N vs) H) :
    FnOk P w K mg base CX (k + 1) f (PySem.W.fnOf name qual params body scope dV kV doc pm an cdv ct) ps sp := by
  refine ⟨len,fun A outer s H args us vs Q E hr e0 hb r hsp => ?_⟩
  have hl := len _ _ _ _ hsp
  have KX : K.In s.heap := e0.mod.kin.keeps fun b o e => (e0.bs b o e).1
  have lim : s.heap.NoLimit := e0.mod.nolimit.keeps fun b o e => (e0.bs b o e).1
  have hkind : ∀ y ∈ ps.zip us,scope.names.lookup y.1 = some .local ∨ (scope.names.lookup y.1 = some .cell ∧ ((cellsFrom (s.heap.objs.size + 1) scope.names []).lookup y.1).isSome = true) := fun ⟨n,v⟩ hy => by
    rcases S.par n (List.of_mem_zip hy).1 with q | q
    · exact .inl q
    · exact .inr ⟨q,PySem.W.cellsFrom_some _ _ _ (.inl q)⟩
  refine codeAny_call_function hr.depth (KX _ _ lk) rfl S.co S.gen rfl (PySem.W.codeRec_of KX hcd) (hb _ _ _ _ ?_)
  refine wpAny_newFunctionEnv_cells S.kind hkind fun env he s1 x => ?_
  subst he
  refine ⟨lim.keeps x.toInCall.keep,codeAny_func ?_⟩
  obtain ⟨t,ht,hq⟩ := hbody A outer s H vs Q E (hr.deeper _) hsp
  have I : Inv (cxOf CX P w K mg base N qual scope f cdv A outer s H E) [] (start N vs) H s1 := inv_start S hr.hd e0 hl r x
  refine wpAny_mono (ht [] s1 (start N vs) H _ I hq) (fun fl s' hs => ?_) fun e s' hs => hs
  have fin : ∀ {σ' : St} {H' : Hp} {v : V} {u : Value},Inv (cxOf CX P w K mg base N qual scope f cdv A outer s H E) [] σ' H' s' → RelV v u → Q v H' → CE outer P w H s Q u s' :=
    fun {σ' H' v u} J rv q => ⟨v,H',J.os,J.bare,J.base,J.hok,rv,q⟩
  cases fl with
  | ret u =>
    obtain ⟨v,σ',H',J,rv,q⟩ := hs
    exact fin J rv q
  | next =>
    obtain ⟨σ',H',J,q⟩ := hs
    exact fin (v := V.non) (u := Value.none) J rfl q
  | brk =>
    obtain ⟨_,_,_,q⟩ := hs
    exact False.elim q
  | cont =>
    obtain ⟨_,_,_,q⟩ := hs
    exact False.elim q
end L2
namespace L2
open PySem PySem.Spec PyProof.Rows
section
variable {X : Cx} {x : Str} {p pos : Pos} {e : Expr} {es : List Expr} {t : TA} {id T : String} {r : List V → Hp → VK → Prop}
def tCB (r : List V → Hp → VK → Prop) (t : TA) : TE := fun σ H Q => t σ H fun vs H1 => r vs H1 Q
theorem pe_callB (hc : CallR X (.builtin id) r) (hg : Gl X x) (hm : X.mg x = none) (hv : bootBuiltins x = some (.builtin id)) (ha : PA X (e :: es) t) (hn : x ≠ "__name__" := by decide) (hdb : (x == ("__debug__" : Str)) = false := by decide)
    (he : starEach (e :: es) X.env = (false,eval e X.env) :: starEach es X.env := by rfl) (hpl : (backTo pos (starEach es X.env)).any (·.1) = false := by rfl) : PE X (.Call (.Name x p) (e :: es) [] pos) (tCB r t) := by
  intro pins s σ H Q I h
  refine wpAny_Call_Name_kw (ld_blt I hg hm hv ?_ hn hdb)
  exact PyProof.Rows.callWith_builtin1 (thn (ha pos pins s σ H _ I h) fun us s1 ⟨vs,H1,I1,r1,q1⟩ => hc pins s1 σ H1 vs us Q I1 r1 q1) he hpl
end
end L2
namespace HT
open PySem PyProof.Rows
section
open PySem.SeqAt
open PySem.AutoSeq1 (wpAny_loadPart')
open PySem.MeetsSeq PySem.MeetsSeq2 PySem.MeetsSeq3
end
section
variable {prog : Program} {w : World} {A : Around} {E : Value → Shared → Prop} {s : Shared}
def sIx (n d : Nat) : Option Int → Nat
  | none => d
  | some v => if v < 0 then (v + (n : Int)).toNat else min v.toNat n
end
end HT
namespace L2
open PySem PySem.Spec PyProof.Rows
abbrev TO := St → Hp → (Option Int → Hp → Prop) → Prop
def PO (X : Cx) (e : Option Expr) (t : TO) : Prop :=
  ∀ (pins : List (Addr × Obj)) (s : Shared) (σ : St) (H : Hp) (Q : Option Int → Hp → Prop),Inv X pins σ H s → t σ H Q →
    wpAny (model X.prog X.w) X.A (evalPart e X.env) (fun u s' => ∃ o H',Inv X pins σ H' s' ∧ IsPart u o ∧ Q o H') X.xe s
def tNoPart : TO := fun _ H Q => Q none H
def tPart (t : TE) : TO := fun σ H Q => t σ H fun x H1 => ∃ i,x = .int i ∧ Q (some i) H1
section
variable {X : Cx} {e : Expr} {te : TE} {lo hi : Option Expr} {tl th : TO} {pos p2 : Pos}
theorem po_none : PO X none tNoPart := by
  intro pins s σ H Q I h
  rw [evalPart_none]
  exact wpAny_pure ⟨none,H,I,.none,h⟩
theorem po_some (h : PE X e te) : PO X (some e) (tPart te) := by
  intro pins s σ H Q I hw
  rw [evalPart_some]
  refine thn (h pins s σ H _ I hw) fun u s1 ⟨x,H1,I1,r1,q1⟩ => ?_
  obtain ⟨i,rfl,q⟩ := q1
  obtain ⟨t,rfl⟩ := r1
  exact ⟨some i,H1,I1,.int i t,q⟩
def SlR (X : Cx) (r : V → Option Int → Option Int → Hp → VK → Prop) : Prop :=
  ∀ (pins : List (Addr × Obj)) (s : Shared) (σ : St) (H : Hp) (x : V) (v vl vu : Value) (lo hi : Option Int) (sl : Addr) (Q : VK),Inv X pins σ H s → RelV x v → s.heap.IsSliceOf sl vl vu .none → IsPart vl lo → IsPart vu hi → r x lo hi H Q →
    ∃ T id,typeLookup (.type T) "__getitem__" = pure (some (.builtin id)) ∧ s.TypeIs v T ∧ wpAny (model X.prog X.w) X.A (getItem v (.ref sl)) (EP X pins σ Q) X.xe s
def tSl (r : V → Option Int → Option Int → Hp → VK → Prop) (te : TE) (tl th : TO) : TE := fun σ H Q => te σ H fun x H1 => tl σ H1 fun l H2 => th σ H2 fun u H3 => r x l u H3 Q
theorem pe_slice {r : V → Option Int → Option Int → Hp → VK → Prop} (hr : SlR X r) (he : PE X e te) (hl : PO X lo tl) (hu : PO X hi th) : PE X (.Subscript e (.Slice lo hi none p2) pos) (tSl r te tl th) := by
  intro pins s σ H Q I h
  refine Subscript_ (thn (he pins s σ H _ I h) fun v s1 ⟨x,H1,I1,r1,q1⟩ => ?_)
  refine wpAny_Slice (thn (hl pins s1 σ H1 _ I1 q1) fun vl s2 ⟨l,H2,I2,pl,q2⟩ => thn (hu pins s2 σ H2 _ I2 q2) fun vu s3 ⟨u,H3,I3,pu,q3⟩ => ?_)
  rw [evalPart_none]
  refine wpAny_pure ?_
  have I4 : Inv X pins σ H3 { s3 with heap := s3.heap.push { cls := .type "slice",data := .fields #[vl,vu,.none] } } := I3.kept (t' := s3.toks) fun b ob q => Heap.get?_push_of_some _ q
  obtain ⟨T,id,hT,ht,hg⟩ := hr pins { s3 with heap := s3.heap.push { cls := .type "slice",data := .fields #[vl,vu,.none] } } σ H3 x v vl vu l u s3.heap.objs.size Q I4 r1 (Heap.IsSliceOf.new ..) pl pu q3
  show wpAny (model X.prog X.w) X.A (subscriptTail e (.Slice lo hi none p2) v (.ref s3.heap.objs.size)) (EP X pins σ Q) X.xe { s3 with heap := s3.heap.push { cls := .type "slice",data := .fields #[vl,vu,.none] } }
  exact tail_any (ops := [.ref s3.heap.objs.size,v]) ht hT hg (by with_unfolding_all rfl)
def cutV (xs : List V) (lo hi : Option Int) : List V := (xs.drop (HT.sIx xs.length 0 lo)).take (HT.sIx xs.length xs.length hi - HT.sIx xs.length 0 lo)
theorem cutV_length (xs : List V) (lo hi : Option Int) : (cutV xs lo hi).length ≤ xs.length := by
  unfold cutV
  rw [List.length_take,List.length_drop]
  omega
end
end L2
namespace L2
open PySem PySem.Spec PyProof.Rows
def ixN (n : Nat) (i : Int) : Option Nat := if 0 ≤ i then (if i < n then some i.toNat else none) else if -(n : Int) ≤ i then some (i + n).toNat else none
def atI {α : Type} (xs : List α) (i : Int) : Option α := (ixN xs.length i).bind fun j => xs[j]?
theorem ixN_seq {n : Nat} {i : Int} {j : Nat} (h : ixN n i = some j) : seqIndex? i n = some j ∧ j < n ∧ -(n : Int) ≤ i ∧ i < n := by
  unfold ixN at h
  by_cases h0 : 0 ≤ i
  · rw [if_pos h0] at h
    by_cases h1 : i < n
    · rw [if_pos h1] at h
      have e : i.toNat = j := Option.some.inj h
      exact ⟨by rw [seqIndex_of h0 h1,e],by omega,by omega,h1⟩
    · rw [if_neg h1] at h; cases h
  · rw [if_neg h0] at h
    by_cases h1 : -(n : Int) ≤ i
    · rw [if_pos h1] at h
      have e : (i + n).toNat = j := Option.some.inj h
      exact ⟨by rw [seqIndex_neg (by omega) h1,e],by omega,h1,by omega⟩
    · rw [if_neg h1] at h; cases h
theorem atI_get {α : Type} {xs : List α} {i : Int} {v : α} (h : atI xs i = some v) : ∃ j,seqIndex? i xs.length = some j ∧ xs[j]? = some v ∧ j < xs.length ∧ -(xs.length : Int) ≤ i ∧ i < xs.length := by
  unfold atI at h
  cases e : ixN xs.length i with
  | none => rw [e] at h; cases h
  | some j =>
    rw [e] at h
    obtain ⟨h1,h2,h3,h4⟩ := ixN_seq e
    exact ⟨j,h1,h,h2,h3,h4⟩
theorem atI_nat {α : Type} {xs : List α} {j : Nat} {v : α} (h : xs[j]? = some v) : atI xs (j : Int) = some v := by
  have hj : j < xs.length := (List.getElem?_eq_some_iff.mp h).1
  have e : ixN xs.length (j : Int) = some j := by
    unfold ixN
    rw [if_pos (by omega),if_pos (by omega)]; simp
  unfold atI; rw [e]; exact h
def PlainIx (b : Expr) : Prop := ∀ o i,subscripted b false o i = operate [o,i] (getItem o i)
def IxR (X : Cx) (r : R2) : Prop :=
  ∀ (value slice : Expr) (pins : List (Addr × Obj)) (s : Shared) (σ : St) (H : Hp) (x y : V) (v u : Value) (Q : VK),Inv X pins σ H s → RelV x v → RelV y u → r x y H Q →
    subscripted slice false v u = operate [v,u] (getItem v u) → wpAny (model X.prog X.w) X.A (subscriptTail value slice v u) (EP X pins σ Q) X.xe s
def MtR (X : Cx) (id : String) (r : V → List V → Hp → VK → Prop) : Prop :=
  ∀ (pins : List (Addr × Obj)) (s : Shared) (σ : St) (H : Hp) (x : V) (xs : List V) (v : Value) (us : List Value) (Q : VK),Inv X pins σ H s → RelV x v → Vals xs us → r x xs H Q →
    wpAny (model X.prog X.w) X.A (call (.builtin id) (v :: us)) (EP X pins σ Q) X.xe s
section
variable {X : Cx} {a b : Expr} {ta tb : TE} {pos : Pos}
theorem pe_ix {r : R2} (hr : IxR X r) (ha : PE X a ta) (hb : PE X b tb) (hs : PlainIx b) : PE X (.Subscript a b pos) (tOp r ta tb) := by
  intro pins s σ H Q I h
  exact Subscript_ (binT ha hb I h fun v u s2 x y H2 I2 rx ry q => hr a b pins s2 σ H2 x y v u Q I2 rx ry q (hs _ _))
def rIxL (K : PySem.W.Frag) : R2 := fun x y H Q => ∃ p xs i v,x = .ref p ∧ y = .int i ∧ SqL K H p xs ∧ atI xs i = some v ∧ Q v H
def rIxT (K : PySem.W.Frag) : R2 := fun x y H Q => ∃ p xs i v,x = .ref p ∧ y = .int i ∧ SqT K H p xs ∧ atI xs i = some v ∧ Q v H
theorem ix_list : IxR X (rIxL X.K) := by
  intro value slice pins s σ H x y v u Q I rx ry h hs
  obtain ⟨p,xs,i,z,rfl,rfl,hq,he,q⟩ := h
  cases rx
  obtain ⟨t,rfl⟩ := ry
  obtain ⟨its,r,pl,hz⟩ := I.list hq
  obtain ⟨j,h1,h2,h3,h4,h5⟩ := atI_get he
  obtain ⟨w,ew,rw'⟩ := r.get h2
  have hl := r.length
  have hn := line63
  have fin : EP X pins σ Q w s := ⟨z,H,I,rw',q⟩
  by_cases h0 : 0 ≤ i
  · have hj : i.toNat = j := by
      rw [seqIndex_of h0 h5] at h1
      exact Option.some.inj h1
    exact item_listR pl.isList h0 (by omega) (by rw [hj]; simpa using ew) fin hs
  · have hj : (i + (its.toArray.size : Int)).toNat = j := by
      rw [seqIndex_neg (by omega) h4] at h1
      rw [List.size_toArray,← hl]
      exact Option.some.inj h1
    exact subscriptTail_builtinR (x := w) pl.isList.typeIs slot_list_getitem.lookup
      (wpAny_getItem_list_neg (Q := fun r s' => r = w ∧ EP X pins σ Q r s') pl.isList (by omega) (by rw [List.size_toArray] <;> omega) (by omega) (by rw [hj]; simpa using ew) ⟨rfl,fin⟩) hs
theorem ix_tup : IxR X (rIxT X.K) := by
  intro value slice pins s σ H x y v u Q I rx ry h hs
  obtain ⟨p,xs,i,z,rfl,rfl,hq,he,q⟩ := h
  cases rx
  obtain ⟨t,rfl⟩ := ry
  obtain ⟨its,r,pl,hz⟩ := I.tuple hq
  obtain ⟨j,h1,h2,h3,h4,h5⟩ := atI_get he
  obtain ⟨w,ew,rw'⟩ := r.get h2
  have hl := r.length
  have hn := line63
  have fin : EP X pins σ Q w s := ⟨z,H,I,rw',q⟩
  exact subscriptTail_builtinR (x := w) pl.typeIs slot_tuple_getitem.lookup
    (getItem_tuple (j := j) (Q := fun r s' => r = w ∧ EP X pins σ Q r s') pl (by omega) (by omega) (by rw [List.size_toArray,← hl]; exact h1) (by simpa using ew) ⟨rfl,fin⟩) hs
theorem slice_bounds (lo hi : Option Int) (n : Nat) : (sliceBounds lo hi none n).1 = ((HT.sIx n 0 lo : Nat) : Int) ∧ (sliceBounds lo hi none n).2.1 = ((HT.sIx n n hi : Nat) : Int) ∧ (sliceBounds lo hi none n).2.2 = 1 := by
  refine ⟨?_,?_,rfl⟩
  · cases lo with
    | none => simp [sliceBounds,HT.sIx]
    | some i =>
      simp only [sliceBounds,HT.sIx,Option.getD_none,show (1 : Int) > 0 by decide,if_true]
      by_cases h : i < 0
      · simp only [h,if_true] <;> omega
      · simp only [h,if_false] <;> omega
  · cases hi with
    | none => simp [sliceBounds,HT.sIx]
    | some i =>
      simp only [sliceBounds,HT.sIx,Option.getD_none,show (1 : Int) > 0 by decide,if_true]
      by_cases h : i < 0
      · simp only [h,if_true] <;> omega
      · simp only [h,if_false] <;> omega
theorem slicePick_cut (its : List Value) (lo hi : Option Int) : slicePick its.toArray lo hi none = ((its.drop (HT.sIx its.length 0 lo)).take (HT.sIx its.length its.length hi - HT.sIx its.length 0 lo)).toArray := by
  obtain ⟨h1,h2,h3⟩ := slice_bounds lo hi its.toArray.size
  unfold slicePick
  rw [h1,h2,h3]
  simp only [sliceRange_one,pick_run,List.size_toArray] <;> rfl
def rSlL (K : PySem.W.Frag) : V → Option Int → Option Int → Hp → VK → Prop := fun x lo hi H Q => ∃ a xs,x = .ref a ∧ SqL K H a xs ∧ ∀ p,H p = none → Q (.ref p) (upd H p (.lst (cutV xs lo hi)))
theorem sl_list : SlR X (rSlL X.K) := by
  intro pins s σ H x v vl vu lo hi sl Q I rx hs pl pu h
  obtain ⟨a,xs,rfl,hx,q⟩ := h
  cases rx
  obtain ⟨its,r,ht,hz⟩ := I.list hx
  have hlen := r.length
  refine ⟨"list",_,slot_list_getitem.lookup,ht.isList.typeIs,?_⟩
  refine wpAny_getItem_list_slice ht.isList hs pl pu .none (by simp) ?_ (by rw [List.size_toArray] <;> omega)
  rw [slicePick_cut,← hlen]
  refine ⟨.ref s.heap.objs.size,_,I.laid (t' := s.toks) (o := .lst (cutV xs lo hi)) (fun b ob q => Heap.get?_push_of_some _ q) (Nat.le_refl _) ?_,rfl,q _ (I.hok.fresh (Nat.le_refl _))⟩
  exact ⟨Nat.le_trans (cutV_length xs lo hi) hz,_,0,(r.drop (HT.sIx xs.length 0 lo)).take (HT.sIx xs.length xs.length hi - HT.sIx xs.length 0 lo),Heap.get?_push_size _ rfl⟩
theorem call_len_seq : CallR X (.builtin "len") (fun xs H Q => ∃ p ys,xs = [.ref p] ∧ (SqL X.K H p ys ∨ SqT X.K H p ys) ∧ Q (.int ys.length) H) := by
  intro pins s σ H xs us Q I r h
  obtain ⟨p,ys,rfl,hq,q⟩ := h
  obtain ⟨u,rfl,rx⟩ := vals1 r
  cases rx
  have hn := line63
  rcases hq with hq | hq
  · obtain ⟨its,r',pl,hz⟩ := I.list hq
    have hlen := r'.length
    exact Calls.call_len_list pl.isList (by simp only [List.size_toArray] <;> omega) ⟨.int ys.length,H,I.tok _,⟨s.toks + 1,by rw [List.size_toArray,hlen]⟩,q⟩
  · obtain ⟨its,r',pl,hz⟩ := I.tuple hq
    have hlen := r'.length
    exact len_tuple pl (by simp only [List.size_toArray] <;> omega) ⟨.int ys.length,H,I.tok _,⟨s.toks + 1,by rw [List.size_toArray,hlen]⟩,q⟩
def tyV (K : PySem.W.Frag) (T : String) (x : V) (H : Hp) : Prop := match x with
  | .str _ => T = "str"
  | .int _ => T = "int"
  | .ref p => (T = "list" ∧ ∃ xs,SqL K H p xs) ∨ (T = "tuple" ∧ ∃ o,K.lookup p = some o ∧ o.cls = .type "tuple" ∧ o.dict = none) ∨
      (T = "dict" ∧ ((∃ kvs,H p = some (.dK kvs)) ∨ ∃ kvs,H p = some (.dT kvs))) ∨ (T = "set" ∧ ∃ S n,H p = some (.set S n))
  | _ => False
theorem tyV_is {pins : List (Addr × Obj)} {σ : St} {H : Hp} {s : Shared} {T : String} {x : V} {v : Value} (I : Inv X pins σ H s) (r : RelV x v) (ty : tyV X.K T x H) :
    s.TypeIs v T ∧ ∀ a,v = .ref a → ∃ ob,s.heap.get? a = some ob ∧ ob.dict = none := by
  cases x with
  | str z =>
    obtain ⟨t,rfl⟩ := r
    cases (show T = "str" from ty)
    exact ⟨typeIs_str s z t,fun _ e => nomatch e⟩
  | int i =>
    obtain ⟨t,rfl⟩ := r
    cases (show T = "int" from ty)
    exact ⟨typeIs_int s i t,fun _ e => nomatch e⟩
  | ref p =>
    cases r
    rcases ty with ⟨rfl,xs,hq⟩ | ⟨rfl,o,hk,hc,hd⟩ | ⟨rfl,hk⟩ | ⟨rfl,S,n,hk⟩
    · obtain ⟨its,_,pl,_⟩ := I.list hq
      refine ⟨pl.isList.typeIs,fun a e => ?_⟩
      cases e
      obtain ⟨o,n,e,c,hd,_⟩ := pl
      exact ⟨o,e,hd⟩
    · refine ⟨⟨o,I.kIn p o hk,hc⟩,fun a e => ?_⟩
      cases e
      exact ⟨o,I.kIn _ o hk,hd⟩
    · have z : ∃ o,s.heap.get? p = some o ∧ o.ExactDict := by
        rcases hk with ⟨kvs,hk⟩ | ⟨kvs,hk⟩
        · obtain ⟨_,_,_,_,o,_,_,e,ex,_⟩ := I.hok p _ hk
          exact ⟨o,e,ex⟩
        · obtain ⟨_,_,_,_,o,_,_,e,ex,_⟩ := I.hok p _ hk
          exact ⟨o,e,ex⟩
      obtain ⟨o,e,ex⟩ := z
      refine ⟨⟨o,e,ex.1⟩,fun a e2 => ?_⟩
      cases e2
      exact ⟨o,e,ex.2.1⟩
    · obtain ⟨o,_,_,_,e,ex,_⟩ := I.hok p _ hk
      refine ⟨⟨o,e,ex.1⟩,fun a e2 => ?_⟩
      cases e2
      exact ⟨o,e,ex.2.1⟩
  | _ => exact False.elim ty
def tBM0 (K : PySem.W.Frag) (T : String) (r : V → List V → Hp → VK → Prop) (to : TE) : TE := fun σ H Q => to σ H fun x H1 => tyV K T x H1 ∧ r x [] H1 Q
def tBM (K : PySem.W.Frag) (T : String) (r : V → List V → Hp → VK → Prop) (to : TE) (t : TA) : TE := fun σ H Q => to σ H fun x H1 => tyV K T x H1 ∧ t σ H1 fun xs H2 => r x xs H2 Q
variable {o e : Expr} {es : List Expr} {to : TE} {t : TA} {name : Str} {apos cpos : Pos} {T id : String} {r : V → List V → Hp → VK → Prop}
theorem pe_bm0 (pa : PlainAttrs T) (slot : Slot T name id) (hty : typeOf (.builtin id) = pure (.type "method_descriptor")) (hm : MtR X id r) (ho : PE X o to)
    (hbase : attributeBase o name X.env (eval o X.env) = eval o X.env := by rfl) (hline : (apos.endLine == cpos.line) = true := by rfl) : PE X (.Call (.Attribute o name apos) [] [] cpos) (tBM0 X.K T r to) := by
  intro pins s σ H Q I h
  refine wpAny_Call_method0_late hbase hline (thn (ho pins s σ H _ I h) fun v s1 ⟨x,H1,I1,r1,ty,q1⟩ => ?_)
  obtain ⟨h1,h2⟩ := tyV_is I1 r1 ty
  exact ⟨T,id,pa,slot,hty,h1,h2,Calls.callWith_builtin rfl (PySem.evalArgs_none (hm pins s1 σ H1 x [] v [] Q I1 r1 .nil q1))⟩
theorem pe_bm (pa : PlainAttrs T) (slot : Slot T name id) (hty : typeOf (.builtin id) = pure (.type "method_descriptor")) (hm : MtR X id r) (ho : PE X o to) (ha : PA X (e :: es) t)
    (hbase : attributeBase o name X.env (eval o X.env) = eval o X.env := by rfl)
    (hfew : ((backTo cpos (starEach (e :: es) X.env)).all (fun x => !x.1) && (backToKw cpos (keywordEach [] X.env)).all (fun x => x.1.isSome)
      && decide ((e :: es).length + ([] : List Keyword).length + (if ([] : List Keyword).isEmpty then 0 else 1) < 30)) = true := by rfl)
    (hline : (apos.endLine == cpos.line) = true := by rfl) (hs : starEach (e :: es) X.env = (false,eval e X.env) :: starEach es X.env := by rfl) (hplain : (backTo cpos (starEach es X.env)).any (·.1) = false := by rfl) :
    PE X (.Call (.Attribute o name apos) (e :: es) [] cpos) (tBM X.K T r to t) := by
  intro pins s σ H Q I h
  refine wpAny_Call_method_late hbase hfew hline rfl (thn (ho pins s σ H _ I h) fun v s1 ⟨x,H1,I1,r1,ty,q1⟩ => ?_)
  obtain ⟨h1,h2⟩ := tyV_is I1 r1 ty
  refine ⟨T,id,pa,slot,hty,h1,h2,?_⟩
  have hA := ha cpos pins s1 σ H1 _ I1 q1
  rw [hs] at hA ⊢
  refine Calls.callWith_builtin (by show (false || (backTo cpos (starEach es X.env)).any (·.1)) = false; rw [hplain] <;> rfl) (Calls.evalArgs_plain ?_)
  exact thn hA fun us s2 ⟨vs,H2,I2,r2,q2⟩ => hm pins s2 σ H2 x vs v us Q I2 r1 r2 q2
end
end L2
namespace L2
open PySem PySem.Spec PyProof.Rows
def MtM (X : Cx) (id : String) (r : V → List V → Hp → VK → Prop) : Prop :=
  ∀ (pins : List (Addr × Obj)) (s : Shared) (σ : St) (H : Hp) (x : V) (xs : List V) (v : Value) (us : List Value) (Q : VK),Inv X pins σ H s → RelV x v → Vals xs us → r x xs H Q →
    wpAny (model X.prog X.w) X.A (call (.builtin id) (v :: us)) (EP X pins σ Q) X.xe s
theorem Vals.one : ∀ {x : V} {us : List Value},Vals [x] us → ∃ u,us = [u] ∧ RelV x u
  | _,_,.cons r .nil => ⟨_,rfl,r⟩
section
variable {X : Cx} {pins : List (Addr × Obj)} {σ : St} {H : Hp} {s : Shared} {l b : Addr} {xs ys zs : List V}
theorem Inv.lset {its its' : List Value} {n : Nat} {f : Array Value → Array Value} {t' : Nat} (I : Inv X pins σ H s) (hH : H l = some (.lst xs))
    (e : s.heap.get? l = some { cls := .type "list",data := .seq its.toArray n }) (hf : f its.toArray = its'.toArray) (hv : Vals ys its') (hz : ys.length ≤ sizeLine) :
    Inv X pins σ (upd H l (.lst ys)) { s with heap := s.heap.update l (Obj.mapSeq f),toks := t' } := by
  have q := PySem.IsL.update e f
  rw [hf] at q
  refine I.write (x := l) (e := l) (by rw [hH]; exact trivial) (.inl rfl) (fun b' u hb hu => (Heap.get?_update_other s.heap (Obj.mapSeq f) (Ne.symm hb)).trans hu) ⟨_,q⟩ ?_
  exact ⟨hz,its',_,hv,q⟩
theorem Inv.lnew {its : List Value} {t' : Nat} (I : Inv X pins σ H s) (hv : Vals ys its) (hz : ys.length ≤ sizeLine) :
    Inv X pins σ (upd H s.heap.objs.size (.lst ys)) { s with heap := s.heap.push { cls := .type "list",data := .seq its.toArray },toks := t' } :=
  I.laid (fun _ _ q => Heap.get?_push_of_some _ q) (Nat.le_refl _) ⟨hz,its,0,hv,Heap.get?_push_size _ rfl⟩
theorem Inv.fresh (I : Inv X pins σ H s) : H s.heap.objs.size = none := I.hok.fresh (Nat.le_refl _)
theorem Inv.lstM (I : Inv X pins σ H s) (hH : H l = some (.lst xs)) : xs.length ≤ sizeLine ∧ ∃ (its : List Value) (n : Nat),Vals xs its ∧ xs.length = its.length ∧ s.heap.get? l = some { cls := .type "list",data := .seq its.toArray n } := by
  obtain ⟨z,its,n,r,e⟩ := I.hok l _ hH
  exact ⟨z,its,n,r,r.length,e⟩
end
section
variable {X : Cx}
def rAppend : V → List V → Hp → VK → Prop := fun x vs H Q => ∃ l xs y,x = .ref l ∧ vs = [y] ∧ H l = some (.lst xs) ∧ xs.length < sizeLine ∧ Q .non (upd H l (.lst (xs ++ [y])))
theorem mt_append : MtM X "list.append" rAppend := by
  intro pins s σ H x vs v us Q I rx rv h
  obtain ⟨l,xs,y,rfl,rfl,hH,hz,q⟩ := h
  cases rx
  obtain ⟨u,rfl,ru⟩ := rv.one
  obtain ⟨z,its,n,r,hl,e⟩ := I.lstM hH
  refine call_meets F.slot_list_append ⟨_,e,rfl⟩ F.entry_list_append (F.args_list_append_2 _ _) (PySem.list_append l its.toArray n u (by rw [List.size_toArray]; omega)) ⟨e,?_⟩
  refine ⟨.non,_,I.lset (its' := its ++ [u]) hH e (by simp) (r.append (.cons ru .nil)) ?_,rfl,q⟩
  rw [List.length_append,List.length_singleton]
  omega
def rCat : R2 := fun x y H Q => ∃ l b xs zs,x = .ref l ∧ y = .ref b ∧ H l = some (.lst xs) ∧ H b = some (.lst zs) ∧ xs.length + zs.length ≤ sizeLine ∧ ∀ p,H p = none → Q (.ref p) (upd H p (.lst (xs ++ zs)))
theorem op_cat : OpR X (binaryOp .Add) rCat := by
  intro pins s σ H x y v u Q I rx ry h
  obtain ⟨l,b,xs,zs,rfl,rfl,hH,hB,hz,q⟩ := h
  cases rx
  cases ry
  obtain ⟨z,its,n,r,hl,e⟩ := I.lstM hH
  obtain ⟨z2,its2,n2,r2,hl2,e2⟩ := I.lstM hB
  refine PySem.P.add_list e e2 ?_ (by rw [List.size_toArray,List.size_toArray]; omega)
  have ea : its.toArray ++ its2.toArray = (its ++ its2).toArray := by simp
  rw [ea]
  exact ⟨.ref _,_,I.lnew (t' := s.toks) (r.append r2) (by rw [List.length_append]; omega),rfl,q _ I.fresh⟩
end
section
variable {prog : Program} {w : World} {A : Around} {E : Value → Shared → Prop} {s : Shared}
set_option maxRecDepth 100000 in
end
section
variable {X : Cx}
end
end L2
namespace Att
open PySem PySem.W PySem.Calls PyProof.Rows
theorem ints_of_wellAll {P : Params} {h : Heap} : ∀ (ns : List Int) (vs : List Value),WellAll P h vs (ns.map WData.int) → IntsAre vs ns := by
  intro ns
  induction ns with
  | nil =>
    intro vs w
    rw [List.map_nil] at w
    cases w
    exact .nil
  | cons n ns ih =>
    intro vs w
    rw [List.map_cons] at w
    cases w with
    | cons a b =>
      cases a
      exact .cons _ _ (ih _ b)
theorem script_of {l : OpenLaw} {n : Nat} (hn : l.most = some n) {P : Params} {h : Heap} {args : List WData} {vals : List Value}
    (hpre : l.row.toRowW.claim.pre args = true) (hwl : WellAll P h vals args) :
    ∃ a vs ns,vals = [Value.ref a] ∧ args = [WData.list (ns.map WData.int)] ∧ h.get? a = some { cls := .type "list",data := .seq vs.toArray } ∧ IntsAre vs ns ∧ ns.length ≤ n := by
  have hsh : WShape.hasAll [] args [.list .int] = true := (pre_splitW hpre).1
  have hc : l.pre.holds [] { args := args } = true := (pre_splitW hpre).2
  obtain ⟨d,r,rfl,h1,h2⟩ := hasAllW_cons hsh
  obtain rfl := hasAllW_nil h2
  obtain ⟨xs,rfl,h3⟩ := hasW_list h1
  obtain ⟨ns,rfl⟩ := items_int h3
  have hlen : ns.length ≤ n := by
    unfold OpenLaw.pre at hc
    have h4 : (WTm.not (.lt (.lit (.int (n : Int))) (.len (.arg 0)))).holds [] { args := [.list (ns.map .int)] } = true := by
      have h4 := (holds_andW hc).1
      rw [hn] at h4
      exact h4
    have h5 := condW_of h4 (w_not (w_lt w_lit (w_len_list (w_arg rfl))))
    rw [List.length_map] at h5
    refine Nat.le_of_not_lt fun q => ?_
    have q' : (n : Int) < ((ns.length : Nat) : Int) := by omega
    first
      | (rw [decide_eq_true q'] at h5; exact absurd h5 (by decide))
      | (simp at h5; omega)
  cases hwl with
  | cons w1 w2 =>
    cases w2
    cases w1 with
    | list ho hall => exact ⟨_,_,ns,rfl,rfl,ho,ints_of_wellAll ns _ hall,hlen⟩
theorem post_true (l : OpenLaw) (args : List WData) : l.row.toRowW.claim.post args (.bool true) args = true :=
  postW_of (r := l.row.toRowW) (X := (true == true))
    (show WShape.has [] (.bool true) .bool = true by first | rfl | decide | simp [WShape.has,WShape.arms,WShape.armsAll])
    (show (WTm.eq .res (.lit (.bool true))).value [] { args := args,res := some (.bool true),after := args } = some (.bool (true == true)) from w_eq_bool (w_res rfl) w_lit) rfl
theorem attach_call {l : OpenLaw} {n : Nat} {q : Program} {loose : List Str} {XP : (Str → Option Value) → Heap → Prop} {YP : World → Heap → Prop} {d : DefRec}
    (hn : l.most = some n) (hdf : d.params.defaults = [])
    (call : ∀ (w : World) (s₀ s₁ : Shared) (mg mb : Str → Option Value) (fa : Addr) (o : Obj) (pm cd doc : Value) (a : Addr) (vs : List Value) (ns : List Int),
      Ground q loose [] XP w s₀ mg mb s₁.heap → YP w s₁.heap →
      s₁.heap.get? fa = some o → o.data = .func (docDef d.name d.params d.body d.scope pm cd doc) → s₁.heap.CodeRec cd d.name → mg d.name = some (.ref fa) →
      s₁.heap.get? a = some { cls := .type "list",data := .seq vs.toArray } → IntsAre vs ns → ns.length ≤ n → s₁.gens = #[] →
      codeAny (model l.prog w) callerA (.call (.ref fa) ⟨[.ref a],[]⟩) (fun r s' => r = .ok (.ret (.bool true)) ∧ OldK s₁.heap s'.heap ∧ s'.os = s₁.os ∧ AllBare s'.gens) s₁) :
    WalkO q loose XP YP l.row.toRowW d [] (fun f vs => PySem.call f vs) := by
  intro w s₀ s₁ mg mb G Y fa o pm cd doc dV kV ho hd hcd hD hmg hg args vals as hpre hlay hrd hwl hlo
  obtain rfl : dV = .none := Dflts.none hD hdf
  obtain rfl : kV = .none := Dflts.noKw hD
  obtain ⟨a,vs,ns,rfl,rfl,hobj,hints,hlen⟩ := script_of hn hpre hwl
  refine enter_call (codeAny_mono (call w s₀ s₁ mg mb fa o pm cd doc a vs ns G Y ho (fd_plain hd) hcd hmg hobj hints hlen hg) fun r s' hq => ?_)
  obtain ⟨rfl,h2,h3,h4⟩ := hq
  exact ⟨.inl ⟨.bool true,.bool true,[],rfl,fun _ => rfl,.bool true,post_true l _,fun _ => ⟨List.Pairwise.nil,fun _ hm => (nomatch hm)⟩⟩,h2,h3,h4⟩
section
variable {prog : Program} {w : World} {A : Around} {E : Value → Shared → Prop} {s : Shared} {K : Frag}
end
end Att
namespace L2
open PySem PySem.Spec PyProof.Rows
theorem vals_ints : ∀ {vs : List Value} {ns : List Int},IntsAre vs ns → Vals (ns.map V.int) vs
  | _,_,.nil => .nil
  | _,_,.cons n t h => .cons ⟨t,rfl⟩ (vals_ints h)
def Only (H : Hp) : Prop := ∀ b,H b = none ∨ ∃ o xs,H b = some (.frz o (.lst xs))
theorem law_call {P : Program} {w : World} {K : PySem.W.Frag} {mg mb : Str → Option Value} {CX : CXT} {k : Nat} {fa a : Addr} {fd : FuncData} {x : Str} {sp : Sp} {s₁ : Shared} {vs : List Value} {ns : List Int}
    (KX : K.In s₁.heap) (hns : s₁.heap.Ns mainGlobals mg) (hb : s₁.heap.Ns builtinsNs mb) (hbb : ∀ x : Str,x ≠ "__name__" → mb x = bootBuiltins x) (hlim : s₁.heap.NoLimit) (hg : s₁.gens = #[])
    (ha : s₁.heap.get? a = some { cls := .type "list",data := .seq vs.toArray }) (hi : IntsAre vs ns) (hl : ns.length ≤ sizeLine) (hr : Room k callerA)
    (F : ∀ base : Heap,K.In base → base.Ns mainGlobals mg → FnOk P w K mg base CX k fa fd [x] sp) (hbind : ∀ (s : Shared) (u : Value),BindsTo s fd ⟨[u],[]⟩ [(x,u)])
    (hsp : ∀ H : Hp,Only H → SqL K H a (ns.map V.int) → sp [.ref a] H (fun v _ => v = .bl true) fun _ _ _ => False)
    (hCX : ∀ H e s',CX [] H s₁ (fun _ _ _ => False) e s' → False) :
    codeAny (model P w) callerA (.call (.ref fa) ⟨[.ref a],[]⟩) (fun r s' => r = .ok (.ret (.bool true)) ∧ OldK s₁.heap s'.heap ∧ s'.os = s₁.os ∧ AllBare s'.gens) s₁ := by
  have rv := vals_ints hi
  have lenV := hi.length
  have core : ∀ H : Hp,Only H → SqL K H a (ns.map V.int) → HOk P w H s₁.heap → (∀ b,H b ≠ none → b = a) → (H a ≠ none → K.lookup a = none) →
      codeAny (model P w) callerA (.call (.ref fa) ⟨[.ref a],[]⟩) (fun r s' => r = .ok (.ret (.bool true)) ∧ OldK s₁.heap s'.heap ∧ s'.os = s₁.os ∧ AllBare s'.gens) s₁ := by
    intro H hO hS hok hA hK
    have base_of : ∀ {b : Addr} {o : Obj},s₁.heap.get? b = some o → H b = none → (hidT s₁.heap H).get? b = some o := fun e n => hidT_get e n
    have noA : ∀ {b : Addr} {o : Obj} {es : Array DictEntry} {ep : Nat},s₁.heap.get? b = some o → o.data = .dict es ep → H b = none := fun {b o es ep} e d => by
      cases q : H b with
      | none => rfl
      | some u =>
        have e' : b = a := hA b (by rw [q]; simp)
        subst e'
        rw [ha] at e; cases e
        have d' : Data.seq vs.toArray _ = Data.dict es ep := d
        cases d'
    have nsK : ∀ {b : Addr} {m : Str → Option Value},s₁.heap.Ns b m → (hidT s₁.heap H).Ns b m := fun {b m} ⟨o,es,ep,e,d,r⟩ => ⟨o,es,ep,base_of e (noA e d),d,r⟩
    have hKb : K.In (hidT s₁.heap H) := fun b o e => base_of (KX b o e) (by
      cases q : H b with
      | none => rfl
      | some u =>
        have e' : b = a := hA b (by rw [q]; simp)
        subst e'
        rw [hK (by rw [q]; simp)] at e; cases e)
    have hM : Mod K mg (hidT s₁.heap H) := ⟨hKb,nsK hns,⟨mb,nsK hb,hbb⟩,let ⟨mc,h1,h2⟩ := hlim; ⟨mc,nsK h1,h2⟩⟩
    have e0 : Env0 P w K mg (hidT s₁.heap H) callerA [] s₁ H := ⟨rfl,hM,fun b o e => of_hidT e,Nat.le_of_eq (hidT_size _ _),trivial,fun b hb => absurd (show b ∈ ([] : List Addr) from hb) (by simp),hok,.of_eq hg⟩
    refine codeAny_mono ((F _ hKb (nsK hns)).run callerA [] s₁ H ⟨[.ref a],[]⟩ [.ref a] [.ref a] _ _ hr e0 (hbind s₁ (.ref a)) (.cons rfl .nil) (hsp H hO hS)) fun r s' h => ?_
    cases r with
    | error e => exact (hCX H e s' h).elim
    | ok fl =>
      cases fl with
      | next => exact False.elim h
      | brk => exact False.elim h
      | cont => exact False.elim h
      | ret u =>
        obtain ⟨v,H',os,bare,un,hok',r',q⟩ := h
        have q' : v = .bl true := q
        subst q'
        obtain rfl : u = Value.bool true := r'
        refine ⟨rfl,OldK.of_keep fun b o e => ?_,os,bare⟩
        cases q : H b with
        | none => exact un.keep b o e q (by intro z; exact absurd (show b ∈ ([] : List Addr) from z) (by simp)) (by simp)
        | some u =>
          rcases hO b with z | ⟨ob,xs,z⟩
          · rw [q] at z; cases z
          · have z2 := un.frzs b ob _ z
            obtain ⟨e1,_⟩ := hok b _ z
            obtain ⟨e2,_⟩ := hok' b _ z2
            rw [e] at e1; cases e1
            exact e2
  cases hk : K.lookup a with
  | some o =>
    have e := KX a o hk
    rw [ha] at e
    cases e
    refine core (fun _ => none) (fun _ => .inl rfl) (.inr ⟨_,vs.toArray,_,hk,rfl,rfl,rfl,by rw [List.size_toArray,lenV]; exact hl,by simpa using rv⟩) (fun b u z => by have z' : (none : Option HO) = some u := z; cases z') (fun b z => absurd rfl z) fun z => absurd rfl z
  | none =>
    refine core (fun b => if b = a then some (.frz { cls := .type "list",data := .seq vs.toArray } (.lst (ns.map V.int))) else none) (fun b => ?_) (.inl (.inr ⟨{ cls := .type "list",data := .seq vs.toArray },if_pos rfl⟩)) (fun b u z => ?_) (fun b z => ?_) fun _ => hk
    · by_cases hb : b = a
      · exact .inr ⟨_,_,if_pos hb⟩
      · exact .inl (if_neg hb)
    · by_cases hb : b = a
      · have z' := (if_pos hb).symm.trans z
        cases z'
        subst hb
        exact ⟨ha,by rw [List.length_map]; exact hl,vs,_,rv,ha⟩
      · have z' := (if_neg hb).symm.trans z
        cases z'
    · by_cases hb : b = a
      · exact hb
      · exact absurd (if_neg hb) z
end L2
namespace L2
open PySem PySem.Spec PyProof.Rows
theorem walk_of {l : PySem.W.OpenLaw} {n k : Nat} {q : Program} {loose : List Str} {XP : (Str → Option Value) → Heap → Prop} {YP : World → Heap → Prop} {d : DefRec} {K : Params → PySem.W.Frag} {CX : World → CXT} {sp : World → Sp} {x : Str}
    (hn : l.most = some n) (hn2 : n ≤ sizeLine) (hdf : d.params.defaults = []) (hr : Room k callerA)
    (hY : ∀ (w : World) (h : Heap),YP w h → (K w.params).In h)
    (F : ∀ (w : World) (mg : Str → Option Value) (fa : Addr) (h : Heap),(K w.params).In h → h.Ns mainGlobals mg → mg d.name = some (.ref fa) →
      ∃ fd : FuncData,(∀ (s : Shared) (u : Value),BindsTo s fd ⟨[u],[]⟩ [(x,u)]) ∧
        ∀ base : Heap,(K w.params).In base → base.Ns mainGlobals mg → FnOk l.prog w (K w.params) mg base (CX w) k fa fd [x] (sp w))
    (hsp : ∀ (w : World) (H : Hp) (a : Addr) (ns : List Int),ns.length ≤ n → Only H → SqL (K w.params) H a (ns.map V.int) → sp w [.ref a] H (fun v _ => v = .bl true) fun _ _ _ => False)
    (hCX : ∀ (w : World) (H : Hp) (s : Shared) (e : Value) (s' : Shared),CX w [] H s (fun _ _ _ => False) e s' → False) :
    PySem.W.WalkO q loose XP YP l.row.toRowW d [] (fun f vs => PySem.call f vs) := by
  refine Att.attach_call hn hdf fun w s₀ s₁ mg mb fa o pm cd doc a vs ns G Y ho hd hcd hmg hobj hints hlen hg => ?_
  have KX := hY w _ Y
  obtain ⟨fd,hb,hF⟩ := F w mg fa _ KX G.T.g hmg
  exact law_call KX G.T.g G.T.b G.T.builtins G.T.nolimit hg hobj hints (Nat.le_trans hlen hn2) hr hF hb (fun H hO hS => hsp w H a ns hlen hO hS) fun H e s' => hCX w H s₁ e s'
end L2
namespace L2
open PySem PySem.Spec PyProof.Rows
def defArgs (s : Stmt) : Arguments := match s with
  | .FunctionDef _ a _ _ _ _ _ _ _ _ => a
  | _ => { posonlyargs := [],args := [],vararg := none,kwonlyargs := [],kw_defaults := [],kwarg := none,defaults := [] }
def defBody (s : Stmt) : List Stmt := match s with
  | .FunctionDef _ _ b _ _ _ _ _ _ _ => b
  | _ => []
def defScope (s : Stmt) : Scope := match s with
  | .FunctionDef _ _ _ _ _ _ sc _ _ _ => sc
  | _ => { kind := .function,names := [],isGenerator := false,isCoroutine := false }
abbrev CX0 : CXT := fun _ _ _ _ _ _ => False
abbrev E0 : XK := fun _ _ _ => False
theorem pass0 {X : Cx} : Passes CX0 X E0 := fun _ _ _ _ _ _ _ h => h.elim
section
variable {P : Program} {w : World} {K : PySem.W.Frag} {mg : Str → Option Value} {base : Heap}
end
theorem small1000 {n : Nat} (h : n ≤ 1000) : n < sizeLine := Nat.lt_of_le_of_lt h (by decide)
section
variable {X : Cx}
theorem pv (i : Nat) {x : Str} {pos : Pos} (hN : X.N[i]? = some x := by rfl) (hv : Vis X.env.scope x := by first | exact Or.inl rfl | exact Or.inr (Or.inl rfl) | exact Or.inr (Or.inr rfl)) (hd : (x == ("__debug__" : Str)) = false := by decide)
    (hcd : (x == ("__classdict__" : Str)) = false := by decide) : PE X (.Name x pos) (tVar i) := pe_var hN hv hd hcd
end
theorem iteF {A B : Prop} (h : B) : if false = true then A else B := by
  rw [if_neg Bool.false_ne_true]
  exact h
theorem iteT {A B : Prop} (h : A) : if true = true then A else B := by
  rw [if_pos rfl]
  exact h
def Same (H H' : Hp) : Prop := ∀ b o,H b = some o → H' b = some o
theorem Same.refl (H : Hp) : Same H H := fun _ _ h => h
theorem Same.trans {H H1 H2 : Hp} (a : Same H H1) (b : Same H1 H2) : Same H H2 := fun c o h => b c o (a c o h)
theorem Same.seq {K : PySem.W.Frag} {H H' : Hp} {a : Addr} {xs : List V} (e : Same H H') (h : SqL K H a xs) : SqL K H' a xs := by
  rcases h with (h | ⟨o,h⟩) | h
  · exact .inl (.inl (e _ _ h))
  · exact .inl (.inr ⟨o,e _ _ h⟩)
  · exact .inr h
end L2
end
section
set_option Elab.async false
set_option linter.all false
set_option maxRecDepth 100000
set_option maxHeartbeats 4000000
namespace Mth
theorem gcd_step {a b : Int} (ha : 0 ≤ a) (hb : 0 < b) : Int.gcd b (a % b) = Int.gcd a b := by
  obtain ⟨m,rfl⟩ := Int.eq_ofNat_of_zero_le ha
  obtain ⟨n,rfl⟩ := Int.eq_ofNat_of_zero_le (Int.le_of_lt hb)
  rw [← Int.natCast_emod]
  show Nat.gcd (n : Int).natAbs ((m % n : Nat) : Int).natAbs = Nat.gcd (m : Int).natAbs (n : Int).natAbs
  simp only [Int.natAbs_natCast]
  rw [Nat.gcd_comm m n,Nat.gcd_comm n (m % n)]
  exact (Nat.gcd_rec n m).symm
theorem gcd_abs (a b : Int) : Int.gcd (if a < 0 then -a else a) b = Int.gcd a b := by
  split
  · exact Int.neg_gcd
  · rfl
theorem gcd_abs' (a b : Int) : Int.gcd a (if b < 0 then -b else b) = Int.gcd a b := by
  rw [Int.gcd_comm,gcd_abs,Int.gcd_comm]
theorem gcd_zero {a : Int} (ha : 0 ≤ a) : (Int.gcd a 0 : Int) = a := by
  rw [Int.gcd_zero]; omega
structure Low (t b : Int) : Prop where
  pos : 1 ≤ b
  one : Int.gcd t b = 1
theorem gcd_pos {a b : Int} (h : b ≠ 0) : 0 < (Int.gcd a b : Int) := by
  have := Int.gcd_pos_of_ne_zero_right a h
  omega
theorem div_eq (a b : Int) : a = a / (Int.gcd a b : Int) * (Int.gcd a b : Int) := (Int.ediv_mul_cancel (Int.gcd_dvd_left a b)).symm
theorem div_eq' (a b : Int) : b = b / (Int.gcd a b : Int) * (Int.gcd a b : Int) := (Int.ediv_mul_cancel (Int.gcd_dvd_right a b)).symm
theorem div_low {a b : Int} (hb : 0 < b) : Low (a / (Int.gcd a b : Int)) (b / (Int.gcd a b : Int)) := by
  have hg := gcd_pos (a := a) (b := b) (by omega)
  refine ⟨?_,?_⟩
  · have h1 := div_eq' a b
    have h2 : 0 < b / (Int.gcd a b : Int) := Int.ediv_pos_of_pos_of_dvd hb (by omega) (Int.gcd_dvd_right a b)
    omega
  · rw [Int.gcd_ediv (Int.gcd_dvd_left a b) (Int.gcd_dvd_right a b)]
    simp only [Int.natAbs_natCast]
    exact Nat.div_self (by omega)
theorem low_dvd {t b t' b' : Int} (h : Low t b) (e : t * b' = t' * b) : b ∣ b' := by
  have h1 : b.natAbs ∣ t.natAbs * b'.natAbs := by
    rw [← Int.natAbs_mul,e,Int.natAbs_mul]
    exact Nat.dvd_mul_left _ _
  have h2 : Nat.Coprime b.natAbs t.natAbs := by
    have := h.one
    unfold Nat.Coprime
    rw [Nat.gcd_comm]
    exact this
  exact Int.natAbs_dvd_natAbs.mp (h2.dvd_of_dvd_mul_left h1)
theorem low_unique {t b t' b' : Int} (h : Low t b) (h' : Low t' b') (e : t * b' = t' * b) : t = t' ∧ b = b' := by
  have d1 := low_dvd h e
  have d2 := low_dvd h' e.symm
  have p1 := h.pos
  have p2 := h'.pos
  have eb : b = b' := Int.le_antisymm (Int.le_of_dvd (by omega) d1) (Int.le_of_dvd (by omega) d2)
  subst eb
  exact ⟨Int.eq_of_mul_eq_mul_right (by omega) e,rfl⟩
structure Frac (top bottom t b : Int) : Prop where
  low : Low t b
  eq : top * b = t * bottom
theorem frac_pos {a b : Int} (hb : 0 < b) : Frac a b (a / (Int.gcd a b : Int)) (b / (Int.gcd a b : Int)) := by
  refine ⟨div_low hb,?_⟩
  have h1 := div_eq a b
  have h2 := div_eq' a b
  generalize a / (Int.gcd a b : Int) = x at *
  generalize b / (Int.gcd a b : Int) = y at *
  generalize (Int.gcd a b : Int) = g at *
  subst h1 h2
  grind
theorem frac_fdiv {a b : Int} (hb : b ≠ 0) (d : Int) (hd : d = if b < 0 then -(Int.gcd a b : Int) else (Int.gcd a b : Int)) : Frac a b (a.fdiv d) (b.fdiv d) := by
  have hg := gcd_pos (a := a) (b := b) hb
  by_cases h : b < 0
  · rw [if_pos h] at hd
    have f := frac_pos (a := -a) (b := -b) (by omega)
    rw [Int.gcd_neg,Int.neg_gcd] at f
    subst hd
    have e1 : a.fdiv (-(Int.gcd a b : Int)) = -a / (Int.gcd a b : Int) := by
      rw [← Int.neg_fdiv_neg,Int.neg_neg]; exact Int.fdiv_eq_ediv_of_nonneg _ (by omega)
    have e2 : b.fdiv (-(Int.gcd a b : Int)) = -b / (Int.gcd a b : Int) := by
      rw [← Int.neg_fdiv_neg,Int.neg_neg]; exact Int.fdiv_eq_ediv_of_nonneg _ (by omega)
    rw [e1,e2]
    exact ⟨f.low,by have := f.eq; grind⟩
  · rw [if_neg h] at hd
    subst hd
    rw [Int.fdiv_eq_ediv_of_nonneg _ (by omega),Int.fdiv_eq_ediv_of_nonneg _ (by omega)]
    exact frac_pos (by omega)
end Mth
namespace L2
open PySem PySem.Spec PyProof.Rows
abbrev bits (i : Int) : Nat := Builtin.Int.intBits i
theorem bits_of {i : Int} {n : Nat} (h : i.natAbs < 2 ^ n) : bits i ≤ n := intBits_le h
theorem bits_lt {i : Int} {n : Nat} (h : bits i ≤ n) : i.natAbs < 2 ^ n := by
  unfold bits Builtin.Int.intBits at h
  by_cases h0 : i = 0
  · subst h0
    exact Nat.pos_of_ne_zero (by simp)
  · rw [if_neg (by simpa using h0)] at h
    have h1 : i.natAbs ≠ 0 := by omega
    exact (Nat.log2_lt h1).mp (by omega)
theorem bits_mono {i j : Int} {n : Nat} (h : i.natAbs ≤ j.natAbs) (hj : bits j ≤ n) : bits i ≤ n := bits_of (Nat.lt_of_le_of_lt h (bits_lt hj))
theorem bits_neg {i : Int} {n : Nat} (hi : bits i ≤ n) : bits (-i) ≤ n := bits_mono (by omega) hi
theorem bits_le {i : Int} {m n : Nat} (h : bits i ≤ m) (hm : m ≤ n) : bits i ≤ n := Nat.le_trans h hm
section
variable {X : Cx} {pos : Pos}
def CM (i j : Int) : Prop := IntMulOk i j
theorem CM.l {i j : Int} (h : -(2 ^ 64) < i ∧ i < 2 ^ 64) : CM i j := CMul.ok (.inl h)
theorem CM.r {i j : Int} (h : -(2 ^ 64) < j ∧ j < 2 ^ 64) : CM i j := CMul.ok (.inr h)
theorem op_mulX : OpR X (binaryOp .Mult) (rI CM fun i j => .int (i * j)) := opI fun _ _ _ _ _ _ _ hc q => mul_int q hc
def CD (_ j : Int) : Prop := 0 < j ∧ bits j ≤ 8000
theorem log2_of_bits {j : Int} {n : Nat} (hj : j ≠ 0) (h : bits j ≤ n) (hn : n ≤ 9000) : j.natAbs.log2 < 9000 := by
  have h1 : j.natAbs ≠ 0 := by omega
  have h2 := (Nat.log2_lt h1).mpr (bits_lt h)
  omega
theorem op_fdivP : OpR X (binaryOp .FloorDiv) (rI CD fun i j => .int (i / j)) := opI fun i j _ _ _ _ _ hc q => by
  have h1 : (0 : Int) < j := hc.1
  exact floordiv_int (by omega) (by rw [Int.fdiv_eq_ediv_of_nonneg i (by omega)]; exact q) (.inl (PyProof.noPylong_of_log2 (log2_of_bits (by omega) hc.2 (by decide))))
def CDZ (_ j : Int) : Prop := j ≠ 0 ∧ bits j ≤ 8000
theorem op_fdivZ : OpR X (binaryOp .FloorDiv) (rI CDZ fun i j => .int (i.fdiv j)) := opI fun i j _ _ _ _ _ hc q =>
  floordiv_int hc.1 q (.inl (PyProof.noPylong_of_log2 (log2_of_bits hc.1 hc.2 (by decide))))
theorem mt_bitlen : MtR X "int.bit_length" (fun x xs H Q => ∃ i,x = .int i ∧ xs = [] ∧ Q (.int ((bits i : Nat) : Int)) H) := by
  intro pins s σ H x xs v us Q I rx rs h
  obtain ⟨i,rfl,rfl,q⟩ := h
  obtain ⟨t,rfl⟩ := rx
  cases rs
  exact call_int_bit_length ⟨.int _,H,I.tok _,⟨_,rfl⟩,q⟩
end
theorem bt_int : bootBuiltins "int" = some (.type "int") := by decide +kernel
theorem bt_bool : bootBuiltins "bool" = some (.type "bool") := by decide +kernel
theorem bt_isinstance : bootBuiltins "isinstance" = some (.builtin "isinstance") := by decide +kernel
theorem bt_abs : bootBuiltins "abs" = some (.builtin "abs") := by decide +kernel
theorem bt_len : bootBuiltins "len" = some (.builtin "len") := by decide +kernel
theorem pe_ty {X : Cx} {x : Str} {T : String} {pos : Pos} (hm : X.mg x = none) (hv : bootBuiltins x = some (.type T)) (hg : Gl X x := by rfl) (hn : x ≠ "__name__" := by decide) (hd : (x == ("__debug__" : Str)) = false := by decide) :
    PE X (.Name x pos) (tC (.ty T)) := pe_bltn hg hm hv rfl hn hd
inductive Kn (H : Hp) : V → String → Prop where
  | non : Kn H .non "NoneType"
  | bl (b : Bool) : Kn H (.bl b) "bool"
  | int (i : Int) : Kn H (.int i) "int"
  | str (x : Str) : Kn H (.str x) "str"
  | lst {a : Addr} {xs : List V} (e : H a = some (.lst xs)) : Kn H (.ref a) "list"
  | tup {a : Addr} {xs : List V} (e : H a = some (.tup xs)) : Kn H (.ref a) "tuple"
  | dict {a : Addr} {kvs : List (Key × V)} (e : H a = some (.dK kvs)) : Kn H (.ref a) "dict"
theorem Kn.ty {K : PySem.W.Frag} {H : Hp} {x : V} {t : String} (k : Kn H x t) : TyOf K H x (.type t) := by
  cases k with
  | non => exact .non
  | bl b => exact .bl b
  | int i => exact .int i
  | str x => exact .str x
  | lst e => exact .lst e
  | tup e => exact .tup e
  | dict e => exact .dK e
theorem Kn.mono {H H' : Hp} {x : V} {t : String} (k : Kn H x t) (s : Same H H') : Kn H' x t := by
  cases k with
  | non => exact .non
  | bl b => exact .bl b
  | int i => exact .int i
  | str x => exact .str x
  | lst e => exact .lst (s _ _ e)
  | tup e => exact .tup (s _ _ e)
  | dict e => exact .dict (s _ _ e)
def isSub (t T : String) : Bool := t == T || (t == "bool" && T == "int")
def Nice (T : String) : Prop := T = "int" ∨ T = "bool" ∨ T = "tuple" ∨ T = "list" ∨ T = "str"
theorem kit_of (K : PySem.W.Frag) {H : Hp} {x : V} {t T : String} (k : Kn H x t) (n : Nice T) : PySem.W.kitOne K (.type t) (.type T) = some (isSub t T) := by
  rcases n with rfl | rfl | rfl | rfl | rfl <;> cases k <;> kernel_rfl
theorem call_isinst {X : Cx} : CallR X (.builtin "isinstance") (fun xs H Q => ∃ x t T,xs = [x,.ty T] ∧ Kn H x t ∧ Nice T ∧ Q (.bl (isSub t T)) H) := by
  intro pins s σ H xs us Q I rs h
  obtain ⟨x,t,T,rfl,k,n,q⟩ := h
  obtain ⟨u,v,rfl,ru,rv⟩ := vals2 rs
  cases (show v = Value.type T from rv)
  exact isinst_ok I ru k.ty (kit_of X.K k n) fun tk => ⟨.bl _,H,I.tok _,rfl,q⟩
structure Fn (P : Program) (w : World) (K : PySem.W.Frag) (mg : Str → Option Value) (base : Heap) (x : Str) (ps : List Str) (k : Nat) (sp : Sp) : Prop where
  ex : ∃ (f : Addr) (fd : FuncData) (o : Obj),mg x = some (.ref f) ∧ PySem.W.keepIn K (.ref f) = true ∧ (∀ us : List Value,us.length = ps.length → bindArgs fd ⟨us,[]⟩ = pure (ps.zip us)) ∧ (K.lookup f = some o ∧ o.data = .func fd) ∧ FnOk P w K mg base CX0 k f fd ps sp
theorem pe_fn {X : Cx} {x : Str} {ps : List Str} {k : Nat} {sp : Sp} {p pos : Pos} {e : Expr} {es : List Expr} {t : TA} (F : Fn X.prog X.w X.K X.mg X.base x ps k sp) (hr : Room k X.A) (hg : Gl X x) (ha : PA X (e :: es) t)
    (hdb : (x == ("__debug__" : Str)) = false := by decide) (he : starEach (e :: es) X.env = (false,eval e X.env) :: starEach es X.env := by rfl) (hpl : (backTo pos (starEach es X.env)).any (·.1) = false := by rfl) :
    PE X (.Call (.Name x p) (e :: es) [] pos) (tCall sp [] E0 t) := by
  obtain ⟨f,fd,o,hm,hk,hb,_,G⟩ := F.ex
  exact pe_call G hr hg hm hk (.all hb) .nil pass0 ha hdb he hpl
structure Df (K : PySem.W.Frag) (mg : Str → Option Value) (x : Str) (st : Stmt) : Prop where
  ex : ∃ (f : Addr) (oc : Value) (od : Option Addr) (kV doc pm : Value) (an : Option Addr) (cdv ct : Value) (osl : Array (Option Value)),
    mg x = some (.ref f) ∧ K.lookup f = some ⟨oc,od,.func (PySem.W.fnOf x x (defArgs st) (defBody st) (defScope st) .none kV doc pm an cdv ct),osl⟩ ∧ PySem.W.codeIn K cdv x = true ∧ PySem.W.keepIn K (.ref f) = true
theorem df_mk {K : PySem.W.Frag} {mg : Str → Option Value} {h : Heap} {x : Str} {st : Stmt} {f : Addr} {oc : Value} {od an : Option Addr} {osl : Array (Option Value)} {kV doc pm cdv ct : Value} (X : K.In h) (G : h.Ns mainGlobals mg)
    (a : PySem.W.nsIn K mainGlobals x = some (some (.ref f))) (l : K.lookup f = some ⟨oc,od,.func (PySem.W.fnOf x x (defArgs st) (defBody st) (defScope st) .none kV doc pm an cdv ct),osl⟩) (c : PySem.W.codeIn K cdv x = true) (k : PySem.W.keepIn K (.ref f) = true) :
    Df K mg x st := ⟨⟨f,oc,od,kV,doc,pm,an,cdv,ct,osl,PySem.W.mg_of X G a,l,c,k⟩⟩
theorem Df.fn {P : Program} {w : World} {K : PySem.W.Frag} {mg : Str → Option Value} {base : Heap} {x : Str} {st : Stmt} {N ps : List Str} {k : Nat} {sp : Sp} (D : Df K mg x st) (S : FnScope N ps (defScope st))
    (hbind : ∀ (kV doc pm : Value) (an : Option Addr) (cdv ct : Value) (us : List Value),us.length = ps.length → bindArgs (PySem.W.fnOf x x (defArgs st) (defBody st) (defScope st) .none kV doc pm an cdv ct) ⟨us,[]⟩ = pure (ps.zip us))
    (len : ∀ vs H Q E,sp vs H Q E → vs.length = ps.length)
    (hbody : ∀ (f : Addr) (cdv : Value) (A : Around) (outer : List Env) (s : Shared) (H : Hp) (vs : List V) (Q : VK) (E : XK),Room k (A.deeper (envOfC x (defScope st) s.heap.objs.size f cdv)) → sp vs H Q E →
      ∃ t,PSs (cxOf CX0 P w K mg base N x (defScope st) f cdv A outer s H E).nox (defBody st) t ∧ t { nx := fun _ H' => Q .non H',rt := Q } (start N vs) H) : Fn P w K mg base x ps (k + 1) sp := by
  obtain ⟨f,oc,od,kV,doc,pm,an,cdv,ct,osl,hm,lk,hcd,hk⟩ := D.ex
  refine ⟨⟨f,_,_,hm,hk,hbind kV doc pm an cdv ct,⟨lk,rfl⟩,fn_of lk hcd S len fun A outer s H vs Q E hr hsp => ?_⟩⟩
  obtain ⟨t,h,q⟩ := hbody f cdv A outer s H vs Q E hr hsp
  exact ⟨t,h.nox,q⟩
theorem law_fd {P : Program} {w : World} {K : PySem.W.Frag} {mg : Str → Option Value} {fa : Addr} {k : Nat} {sp : Sp} (h : Heap) (hfa : mg "law" = some (.ref fa)) (F : ∀ base : Heap,Fn P w K mg base "law" ["script"] k sp) :
    ∃ fd : FuncData,(∀ (s : Shared) (v : Value),BindsTo s fd ⟨[v],[]⟩ [("script",v)]) ∧ ∀ base : Heap,K.In base → base.Ns mainGlobals mg → FnOk P w K mg base CX0 k fa fd ["script"] sp := by
  obtain ⟨f,fd,o,hm,_,hb,⟨hl,hd⟩,_⟩ := (F h).ex
  rw [hfa] at hm
  cases hm
  refine ⟨fd,fun s v => .of_eq (hb [v] rfl),fun base _ _ => ?_⟩
  obtain ⟨f',fd',o',hm',_,_,⟨hl',hd'⟩,G⟩ := (F base).ex
  rw [hfa] at hm'
  cases hm'
  rw [hl] at hl'
  cases hl'
  rw [hd] at hd'
  cases hd'
  exact G
def spLaw (K : PySem.W.Frag) : Sp := fun vs H Q _ => ∃ (a : Addr) (ns : List Int),vs = [.ref a] ∧ SqL K H a (ns.map V.int) ∧ ns.length ≤ 63 ∧ ∀ H',Q (.bl true) H'
theorem law_walk {l : PySem.W.OpenLaw} {k : Nat} {q : Program} {loose : List Str} {XP : (Str → Option Value) → Heap → Prop} {YP : World → Heap → Prop} {d : DefRec} {K : Params → PySem.W.Frag} (hk : Room k callerA) (hn : l.most = some 63) (hdf : d.params.defaults = [])
    (hY : ∀ (w : World) (h : Heap),YP w h → (K w.params).In h)
    (F : ∀ (w : World) (mg : Str → Option Value) (fa : Addr) (h : Heap),(K w.params).In h → h.Ns mainGlobals mg → mg d.name = some (.ref fa) →
      ∃ fd : FuncData,(∀ (s : Shared) (u : Value),BindsTo s fd ⟨[u],[]⟩ [("script",u)]) ∧ ∀ base : Heap,(K w.params).In base → base.Ns mainGlobals mg → FnOk l.prog w (K w.params) mg base CX0 k fa fd ["script"] (spLaw (K w.params))) :
    PySem.W.WalkO q loose XP YP l.row.toRowW d [] (fun f vs => PySem.call f vs) :=
  L2.walk_of (n := 63) (k := k) (x := "script") (CX := fun _ => CX0) (sp := fun w => spLaw (K w.params)) hn (by decide) hdf hk hY F (fun _ _ a ns hl _ hS => ⟨a,ns,rfl,hS,hl,fun _ => rfl⟩) fun _ _ _ _ _ z => z
theorem Same.new {H : Hp} {p : Addr} {o : HO} (h : H p = none) : Same H (upd H p o) := fun b o' e => by
  rw [upd_ne (ne_of_none e h)]
  exact e
theorem ite3 {c : Bool} {A B : Prop} (h1 : c = true → A) (h2 : c = false → B) : if c = true then A else B := by
  cases c with
  | true => exact iteT (h1 rfl)
  | false => exact iteF (h2 rfl)
theorem iteFalse {b : Bool} {A B : Prop} (hb : b = false) (h : B) : if b = true then A else B := by
  subst hb
  exact iteF h
def forBody (s : Stmt) : List Stmt := match s with
  | .For _ _ b _ _ => b
  | _ => []
def isIntV : V → Bool
  | .int _ => true
  | _ => false
theorem mem_cutV {xs : List V} {lo hi : Option Int} {x : V} (h : x ∈ cutV xs lo hi) : x ∈ xs := List.mem_of_mem_drop (List.mem_of_mem_take h)
end L2
namespace Sp1
open PySem PySem.Spec L2 Mth
def spWhole : Sp := fun vs H Q _ => ∃ x t,vs = [x] ∧ Kn H x t ∧ Q (.bl (isIntV x)) H
def spGcd : Sp := fun vs H Q _ => ∃ a b : Int,vs = [.int a,.int b] ∧ Q (.int (Int.gcd a b : Int)) H
def spMixed : Sp := fun vs H Q _ => ∃ c k : Int,vs = [.int c,.int k] ∧ ∀ n : Int,Q (.int n) H
def spNumbers : Sp := fun vs H Q _ => ∃ (c : Int) (m : Nat) (b : Int),vs = [.int c,.int (m : Int),.int b] ∧ m ≤ 100 ∧ (0 < b ∧ bits b ≤ 2000) ∧
  ∀ (p : Addr) (ns : List Int) (H' : Hp),ns.length = m → (∀ n ∈ ns,0 ≤ n ∧ n < b) → Same H H' → H' p = some (.lst (ns.map V.int)) → Q (.ref p) H'
theorem whole_sub {H : Hp} {x : V} {t : String} (k : Kn H x t) : (isSub t "int" = true → (!isSub t "bool") = isIntV x) ∧ (isSub t "int" = false → isIntV x = false) := by
  cases k with
  | non => exact ⟨fun h => absurd h (by decide),fun _ => rfl⟩
  | bl b => exact ⟨fun _ => (show (!isSub "bool" "bool") = false by decide),fun h => absurd h (by decide)⟩
  | int i => exact ⟨fun _ => (show (!isSub "int" "bool") = true by decide),fun h => absurd h (by decide)⟩
  | str x => exact ⟨fun h => absurd h (by decide),fun _ => rfl⟩
  | lst e => exact ⟨fun h => absurd h (by decide),fun _ => rfl⟩
  | tup e => exact ⟨fun h => absurd h (by decide),fun _ => rfl⟩
  | dict e => exact ⟨fun h => absurd h (by decide),fun _ => rfl⟩
theorem abs_nonneg (a : Int) : 0 ≤ (if a < 0 then -a else a) := by split <;> omega
theorem Kn.cases_int {H : Hp} {y : V} {t : String} (k : Kn H y t) : (∃ a,y = .int a ∧ t = "int") ∨ ((∀ a,y ≠ .int a) ∧ isIntV y = false) := by
  cases k with
  | int a => exact .inl ⟨a,rfl,rfl⟩
  | non => exact .inr ⟨fun a e => (nomatch e),rfl⟩
  | bl b => exact .inr ⟨fun a e => (nomatch e),rfl⟩
  | str x => exact .inr ⟨fun a e => (nomatch e),rfl⟩
  | lst e => exact .inr ⟨fun a e => (nomatch e),rfl⟩
  | tup e => exact .inr ⟨fun a e => (nomatch e),rfl⟩
  | dict e => exact .inr ⟨fun a e => (nomatch e),rfl⟩
theorem sz {n : Nat} (h : n ≤ 1000) : n ≤ sizeLine := Nat.le_of_lt (small1000 h)
theorem atI_mem {α : Type} {xs : List α} {k : Int} (h0 : 0 ≤ k) (h1 : k < (xs.length : Int)) : ∃ v,atI xs k = some v ∧ v ∈ xs := by
  have hk : k.toNat < xs.length := by omega
  have ek : k = ((k.toNat : Nat) : Int) := by omega
  have q := atI_nat (xs := xs) (j := k.toNat) (List.getElem?_eq_getElem hk)
  rw [← ek] at q
  exact ⟨xs[k.toNat],q,List.getElem_mem hk⟩
theorem lt64 {n : Int} (h0 : 0 ≤ n) (h1 : n < 2147483647) : -(2 ^ 64) < n ∧ n < 2 ^ 64 := by
  have e : (2 : Int) ^ 64 = 18446744073709551616 := by decide
  rw [e]
  omega
theorem gcd_bits2 {a b : Int} {n : Nat} (hb : b ≠ 0) (h : bits b ≤ n) : bits (Int.gcd a b : Int) ≤ n := by
  refine bits_mono ?_ h
  have h1 : (Int.gcd a b) ∣ b.natAbs := Int.gcd_dvd_natAbs_right a b
  have h2 := Nat.le_of_dvd (by omega) h1
  omega
end Sp1
namespace L2
open PySem PySem.Spec PyProof.Rows
section
variable {X : Cx}
end
end L2
namespace L2
open PySem PySem.Spec PyProof.Rows
section
variable {prog : Program} {w : World} {A : Around} {E : Value → Shared → Prop}
end
end L2
namespace L2
open PySem PySem.Spec PyProof.Rows
theorem ObjOk.has {P : Program} {w : World} {H : Hp} {h : Heap} {a : Addr} {o : HO} (x : ObjOk P w H h a o) : ∃ ob,h.get? a = some ob := by
  cases o with
  | lst xs => obtain ⟨_,_,_,_,e⟩ := x; exact ⟨_,e⟩
  | tup xs => obtain ⟨_,_,_,ob,e,_⟩ := x; exact ⟨_,e⟩
  | dK kvs => obtain ⟨_,_,_,_,ob,_,_,e,_⟩ := x; exact ⟨_,e⟩
  | dT kvs => obtain ⟨_,_,_,_,ob,_,_,e,_⟩ := x; exact ⟨_,e⟩
  | set S n => obtain ⟨ob,_,_,_,e,_⟩ := x; exact ⟨_,e⟩
  | ins C dx fs => obtain ⟨_,_,_,e,_⟩ := x; exact ⟨_,e⟩
  | own y => obtain ⟨ob,e⟩ := x; exact ⟨_,e⟩
  | xd fs => obtain ⟨_,⟨od,_,_,e,_⟩,_⟩ := x; exact ⟨_,e⟩
  | rng lo hi => obtain ⟨_,_,_,e⟩ := x; exact ⟨_,e⟩
  | frz ob u => obtain ⟨e,_⟩ := x; exact ⟨_,e⟩
  | tbl ps => exact ⟨_,(show h.get? a = some _ from x)⟩
  | met f y => exact ⟨_,(show h.get? a = some _ from x)⟩
  | ext φ => obtain ⟨_,⟨ob,e⟩,_⟩ := x; exact ⟨_,e⟩
structure Big (B : Heap) (fs : List Addr) (H' : Hp) (h : Heap) : Prop where
  tr : ∀ b o,H' b = some o → ∃ ob,B.get? b = some ob
  old : ∀ b o,h.get? b = some o → b ∉ fs → ∃ ob,B.get? b = some ob
section
variable {P : Program} {w : World} {fs fs' : List Addr} {H H1 H' : Hp} {h h1 h2 B : Heap}
theorem Un.fly (un : Un fs [] H H' h h1) (big : Big B fs H' h) (st1 : B.StaysIn h1) (st2 : B.StaysIn h2) (sl : h1.UpToSlots h2)
    (fr : ∀ b ∈ fs,H b = none ∧ ∀ o,h1.get? b = some o → ∀ vs,o.data ≠ .fields vs) : Un fs [] H H' h h2 where
  keep := fun b o e n hb hx => by
    have e1 := un.keep b o e n hb hx
    obtain ⟨ob,eb⟩ := big.old b o e hb
    have e2 := st1 b ob eb
    rw [e1] at e2
    cases e2
    exact st2 b _ eb
  slot := fun b o e n hb hx => by
    obtain ⟨s1,e1⟩ := un.slot b o e n hb hx
    obtain ⟨s2,e2⟩ := sl b _ e1 ((fr b hb).2 _ e1)
    exact ⟨s2,e2⟩
  free := un.free
  there := fun b o e hx => by
    by_cases hb : b ∈ fs
    · obtain ⟨s1,e1⟩ := un.slot b o e (fr b hb).1 hb hx
      obtain ⟨s2,e2⟩ := sl b _ e1 ((fr b hb).2 _ e1)
      exact ⟨_,e2⟩
    · obtain ⟨ob,eb⟩ := big.old b o e hb
      exact ⟨_,st2 b ob eb⟩
  tups := un.tups
  frzs := un.frzs
  tbls := un.tbls
theorem HOk.fly (hok : HOk P w H' h1) (big : Big B fs H' h) (st1 : B.StaysIn h1) (st2 : B.StaysIn h2) : HOk P w H' h2 := fun a o e => by
  refine (hok a o e).stay (fun b u hb q => ?_) (fun _ q => q) fun _ _ q => q
  have hb' : ∃ ob,B.get? b = some ob := by
    rcases hb with z | z
    · rw [z]
      exact big.tr a o e
    · exact big.tr b _ z
  obtain ⟨ob,eb⟩ := hb'
  have e2 := st1 b ob eb
  rw [q] at e2
  cases e2
  exact st2 b _ eb
theorem Un.shed (a : Un fs [] H H1 h h1) (b : Un fs' [] H1 H' h1 h2) (sub : ∀ x ∈ fs,x ∈ fs') (out : ∀ x o,h.get? x = some o → x ∈ fs' → x ∈ fs) : Un fs [] H H' h h2 where
  keep := fun x o e n hx hn => b.keep x o (a.keep x o e n hx hn) (a.free x o e n hn) (fun z => hx (out x o e z)) hn
  slot := fun x o e n hx hn => by
    obtain ⟨s1,e1⟩ := a.slot x o e n hx hn
    obtain ⟨s2,e2⟩ := b.slot x _ e1 (a.free x o e n hn) (sub x hx) hn
    exact ⟨s2,e2⟩
  free := fun x o e n hn => by
    obtain ⟨o1,e1⟩ := a.there x o e hn
    exact b.free x o1 e1 (a.free x o e n hn) hn
  there := fun x o e hn => by
    obtain ⟨o1,e1⟩ := a.there x o e hn
    exact b.there x o1 e1 hn
  tups := fun x xs e => b.tups x xs (a.tups x xs e)
  frzs := fun x o xs e => b.frzs x o xs (a.frzs x o xs e)
  tbls := fun x ps e => by
    obtain ⟨m1,e1⟩ := a.tbls x ps e
    obtain ⟨m2,e2⟩ := b.tbls x _ e1
    exact ⟨m1 ++ m2,by rw [e2,Array.append_assoc]⟩
end
def CXE (P : Program) (w : World) : CXT := fun outer H s E e s' => ∃ (ea t : Addr) (cls : Value) (H' : Hp) (B : Heap),
  e = .ref ea ∧ s'.os = s.os ∧ AllBare s'.gens ∧ Un (frs outer) [] H H' s.heap s'.heap ∧ HOk P w H' s'.heap ∧ Heap.FlyingW B outer ea cls (.ref t) s'.heap ∧ Big B (frs outer) H' s.heap ∧ E cls none H'
section
variable {P : Program} {w : World} {K : PySem.W.Frag} {mg : Str → Option Value} {base : Heap} {N : List Str} {qual : Str} {scope : Scope} {f : Addr} {cdv : Value} {A : Around} {outer : List Env} {s₀ : Shared} {H₀ : Hp} {E : XK}
theorem frs_cons {env : Env} {L : Addr} (hf : env.frame = some L) (l : List Env) : frs (env :: l) = L :: frs l := by
  unfold frs
  rw [List.filterMap_cons,hf]
theorem raised {pins : List (Addr × Obj)} {σ : St} {H : Hp} {s : Shared} {h' : Heap} {e : Addr} {cls : Value} {vs : List Value} (I : Inv (cxOf (CXE P w) P w K mg base N qual scope f cdv A outer s₀ H₀ E) pins σ H s)
    (hx : Heap.MadeExcOf s.heap h' e cls vs) (q : E cls none H) : (cxOf (CXE P w) P w K mg base N qual scope f cdv A outer s₀ H₀ E).xe (.ref e) { s with heap := h' } := by
  have hin : ∀ env ∈ (cxOf (CXE P w) P w K mg base N qual scope f cdv A outer s₀ H₀ E).stack,∀ a,env.frame = some a → a ∈ frs (cxOf (CXE P w) P w K mg base N qual scope f cdv A outer s₀ H₀ E).stack :=
    fun env he a ha => List.mem_filterMap.mpr ⟨env,he,ha⟩
  have neL : ∀ b o,s₀.heap.get? b = some o → b ∉ frs outer → b ∉ frs (cxOf (CXE P w) P w K mg base N qual scope f cdv A outer s₀ H₀ E).stack := fun b o eb hb hm => by
    rcases List.mem_cons.mp (I.stkSub b hm) with z | z
    · exact absurd z (Nat.ne_of_lt (Nat.lt_of_lt_of_le (Heap.lt_size eb) I.ok.above))
    · exact hb z
  refine wpAny_leaves_madeW (base := PySem.W.hideAll s.heap (frs (cxOf (CXE P w) P w K mg base N qual scope f cdv A outer s₀ H₀ E).stack)) (h := s.heap) (L := s₀.heap.objs.size) I.ok.frames rfl (fun b o z => PySem.W.of_hideAll _ z) (PySem.W.funFrames_hide I.stack hin) hx fun h'' t fl _ _ up => ?_
  have big : Big (PySem.W.hideAll s.heap (frs (cxOf (CXE P w) P w K mg base N qual scope f cdv A outer s₀ H₀ E).stack)) (frs outer) H s₀.heap := by
    refine ⟨fun b o eb => ?_,fun b o eb hb => ?_⟩
    · obtain ⟨ob,z⟩ := (I.hok b o eb).has
      refine ⟨ob,PySem.W.hideAll_get _ z fun hm => ?_⟩
      rw [I.stkFree b hm] at eb
      cases eb
    · obtain ⟨ob,z⟩ := I.base.there b o eb (by intro z; cases z)
      exact ⟨ob,PySem.W.hideAll_get _ z (neL b o eb hb)⟩
  have st1 : (PySem.W.hideAll s.heap (frs (cxOf (CXE P w) P w K mg base N qual scope f cdv A outer s₀ H₀ E).stack)).StaysIn s.heap := fun b o z => PySem.W.of_hideAll _ z
  have sl : s.heap.UpToSlots h'' := (Heap.UpToSlots.of_keeps hx.keeps).trans up
  exact ⟨e,t,cls,H,_,rfl,I.os,I.bare,Un.fly I.base big st1 fl.1 sl fun b hb => ⟨I.ok.frf b hb,fun o eo => by
      obtain ⟨_,o',eo',nf⟩ := I.funs.mem hb
      rw [eo] at eo'
      cases eo'
      exact nf⟩,HOk.fly I.hok big st1 fl.1,fl,big,q⟩
theorem pass_on {E1 : XK} (hE : ∀ c o H',E1 c o H' → E c o H') : Passes (CXE P w) (cxOf (CXE P w) P w K mg base N qual scope f cdv A outer s₀ H₀ E) E1 := by
  intro pins σ H s e s' I h
  obtain ⟨ea,t,cls,H',B,rfl,os,bare,un,hok,fl,big,q⟩ := h
  refine wpAny_leaves_onW (L := s₀.heap.objs.size) I.ok.frames rfl fl fun h'' fl' up => ?_
  have out : ∀ x o,s₀.heap.get? x = some o → x ∈ frs (cxOf (CXE P w) P w K mg base N qual scope f cdv A outer s₀ H₀ E).stack → x ∈ frs outer := fun x o ex hm => by
    rcases List.mem_cons.mp (I.stkSub x hm) with z | z
    · exact absurd z (Nat.ne_of_lt (Nat.lt_of_lt_of_le (Heap.lt_size ex) I.ok.above))
    · exact z
  have sub : ∀ x ∈ frs outer,x ∈ frs (cxOf (CXE P w) P w K mg base N qual scope f cdv A outer s₀ H₀ E).stack := fun x hx => by
    show x ∈ frs (_ :: outer)
    rw [frs_cons (L := s₀.heap.objs.size) rfl]
    exact List.mem_cons_of_mem _ hx
  have un1 : Un (frs outer) [] H₀ H' s₀.heap s'.heap := Un.shed I.base un sub out
  have big1 : Big B (frs outer) H' s₀.heap := by
    refine ⟨big.tr,fun b o eb hb => ?_⟩
    obtain ⟨ob,z⟩ := I.base.there b o eb (by intro z; cases z)
    exact big.old b ob z fun hm => hb (out b o eb hm)
  refine ⟨ea,t,cls,H',B,rfl,os.trans I.os,bare,Un.fly un1 big1 fl.1 fl'.1 up fun b hb => ⟨I.ok.frf b hb,fun o eo => ?_⟩,HOk.fly hok big1 fl.1 fl'.1,fl',big1,hE _ _ _ q⟩
  obtain ⟨_,o',eo',nf⟩ := fl'.2.2.1.mem hb
  obtain ⟨_,o2,eo2,nf2⟩ := fl.2.2.1.mem (sub b hb)
  rw [eo] at eo2
  cases eo2
  exact nf2
end
structure ExcC (K : PySem.W.Frag) (mg : Str → Option Value) (x : Str) (C : Addr) : Prop where
  bound : mg x = some (.ref C)
  obj : ∀ h : Heap,K.In h → ∃ bm N nm qn bs hd sn sub ab col dd k0 k1 k2 k3 k5 mN,h.get? C = some (excClassObj nm qn C N bs bm hd sn sub ab col dd k0 k1 k2 k3 k5 "ValueError.__new__") ∧ h.Ns N mN ∧ mN "__init__" = none ∧
    OwnTail h [.type "ValueError",.type "Exception",.type "BaseException",.type "object"] bm
theorem exc_obj {K : PySem.W.Frag} {h : Heap} {C : Addr} {bmB : List Value} {newId : String} (X : K.In h) (q : PySem.W.excIn K C bmB newId = true) :
    ∃ bm N nm qn bs hd sn sub ab col dd k0 k1 k2 k3 k5 mN,h.get? C = some (excClassObj nm qn C N bs bm hd sn sub ab col dd k0 k1 k2 k3 k5 newId) ∧ h.Ns N mN ∧ mN "__init__" = none ∧ OwnTail h bmB bm := by
  unfold PySem.W.excIn at q
  split at q
  next dct cl sls look =>
    split at q
    next C2 bms a0 a1 a2 a3 nid a5 hmro hsls =>
      simp only [Bool.not_eq_true',beq_iff_eq,Bool.and_eq_true] at q
      obtain ⟨⟨⟨⟨⟨q1,q2⟩,q3⟩,q4⟩,q5⟩,q6⟩ := q
      subst q1 q2
      obtain ⟨c1,c2,c3,c4,c5,c6,c7,c8,c9,c10,c11⟩ := cl
      dsimp only at hmro q3 q5 q6
      subst hmro q3
      obtain ⟨lst⟩ := sls
      simp only at hsls
      subst hsls
      exact ⟨bms,c4,c1,c5,c2,c6,c7,c8,c9,c10,dct,a0,a1,a2,a3,a5,_,X _ _ look,.of_isNs (PySem.W.isNs_of_in X q5),PySem.W.nsMap_none_of_in X q5 q6,PySem.W.tail_of_in X q4⟩
    next => cases q
  next => cases q
theorem exc_mk {K : PySem.W.Frag} {mg : Str → Option Value} {h : Heap} {x : Str} {C : Addr} (X : K.In h) (G : h.Ns mainGlobals mg) (a : PySem.W.nsIn K mainGlobals x = some (some (.ref C)))
    (q : PySem.W.excIn K C [.type "ValueError",.type "Exception",.type "BaseException",.type "object"] "ValueError.__new__" = true) : ExcC K mg x C := ⟨PySem.W.mg_of X G a,fun _ Y => exc_obj Y q⟩
section
variable {P : Program} {w : World} {K : PySem.W.Frag} {mg : Str → Option Value} {base : Heap} {N : List Str} {qual : Str} {scope : Scope} {f : Addr} {cdv : Value} {A : Around} {outer : List Env} {s₀ : Shared} {H₀ : Hp} {E : XK}
theorem ps_raise {x : Str} {C : Addr} {np cpos pos : Pos} (O : ExcC K mg x C) (hg : Gl (cxOf (CXE P w) P w K mg base N qual scope f cdv A outer s₀ H₀ E) x) (hdb : (x == ("__debug__" : Str)) = false := by decide) :
    PS (cxOf (CXE P w) P w K mg base N qual scope f cdv A outer s₀ H₀ E) (.Raise (some (.Call (.Name x np) [] [] cpos)) none pos) (fun _ _ H => E (.ref C) none H) := by
  intro pins s σ H D I h
  obtain ⟨bm,N',nm,qn,bs,hd,sn,sub,ab,col,dd,k0,k1,k2,k3,k5,mN,hC,hN,hni,T⟩ := O.obj s.heap I.kIn
  refine wpAny_Raise_call_subT (C := C) (nm := nm) (q := qn) (N := N') (bs := bs) (bm := bm) (hdct := hd) (sn := sn) (sub := sub) (ab := ab) (col := col) (dd := dd) (k0 := k0) (k1 := k1) (k2 := k2) (k3 := k3) (k5 := k5) PySem.F.excBase_ValueError (mN := mN) (T.hasType (by decide +kernel)) (I.ok.hd rfl) rfl hni (ld_glob I hg O.bound ⟨rfl,?_⟩ hdb)
  exact evalArgs_empty ⟨rfl,Nat.zero_le _,hC,hN,T,fun h' e hx => raised I hx h⟩
end
abbrev Cx.inH (X : Cx) (e : Addr) : Cx := { X with A := X.A.mark (some (.ref e)),calm := false,xe := fun _ _ => False }
theorem Inv.inH {X : Cx} {pins : List (Addr × Obj)} {σ : St} {H : Hp} {s : Shared} (I : Inv X pins σ H s) (e : Addr) : Inv (X.inH e) pins σ H s :=
  ⟨⟨I.ok.mod,I.ok.kind,I.ok.glob,I.ok.blt,I.ok.above,I.ok.inj,I.ok.has,I.ok.cab,(fun z => by cases z),I.ok.frames,I.ok.stk,I.ok.exf,I.ok.bs,I.ok.bsz,I.ok.noex,I.ok.exfs,I.ok.funs,I.ok.frf⟩,
    I.os,I.bare,I.base,I.loc,I.cell,I.free,I.freeC,I.pin,I.hok,I.len⟩
theorem Inv.outH {X : Cx} {e : Addr} {pins : List (Addr × Obj)} {σ : St} {H : Hp} {s : Shared} (ok : X.Ok) (I : Inv (X.inH e) pins σ H s) : Inv X pins σ H s :=
  ⟨ok,I.os,I.bare,I.base,I.loc,I.cell,I.free,I.freeC,I.pin,I.hok,I.len⟩
section
variable {X : Cx}
end
abbrev TX := (Value → St → Hp → Prop) → TS
def XP (X : Cx) (pins : List (Addr × Obj)) (R : Value → St → Hp → Prop) (ev : Value) (s' : Shared) : Prop :=
  ∃ (s₁ : Shared) (σ₁ : St) (H₁ : Hp) (E1 : XK),Inv X pins σ₁ H₁ s₁ ∧ CXE X.prog X.w X.stack H₁ s₁ E1 ev s' ∧ ∀ c o H',E1 c o H' → R c σ₁ H'
def PX (X : Cx) (st : Stmt) (t : TX) : Prop :=
  ∀ (pins : List (Addr × Obj)) (s : Shared) (σ : St) (H : Hp) (D : Ends) (R : Value → St → Hp → Prop),Inv X pins σ H s → t R D σ H → wpAny (model X.prog X.w) X.A (exec st X.env) (SP X pins D) (XP X pins R) s
def PXs (X : Cx) (st : List Stmt) (t : TX) : Prop :=
  ∀ (pins : List (Addr × Obj)) (s : Shared) (σ : St) (H : Hp) (D : Ends) (R : Value → St → Hp → Prop),Inv X pins σ H s → t R D σ H → wpAny (model X.prog X.w) X.A (execs st X.env) (SP X pins D) (XP X pins R) s
structure Fx (P : Program) (w : World) (K : PySem.W.Frag) (mg : Str → Option Value) (base : Heap) (x : Str) (ps : List Str) (k : Nat) (ds : List V) (sp : Sp) : Prop where
  ex : ∃ (f : Addr) (fd : FuncData) (its : List Value),mg x = some (.ref f) ∧ PySem.W.keepIn K (.ref f) = true ∧ Binds K fd ps [] ∧ Binds K fd ps its ∧ Vals ds its ∧ FnOk P w K mg base (CXE P w) k f fd ps sp
structure DfD (K : PySem.W.Frag) (mg : Str → Option Value) (x : Str) (st : Stmt) (ds : List V) : Prop where
  ex : ∃ (f T : Addr) (oT : Obj) (n : Nat) (its : List Value) (oc : Value) (od : Option Addr) (kV doc pm : Value) (an : Option Addr) (cdv ct : Value) (osl : Array (Option Value)),
    mg x = some (.ref f) ∧ K.lookup f = some ⟨oc,od,.func (PySem.W.fnOf x x (defArgs st) (defBody st) (defScope st) (.ref T) kV doc pm an cdv ct),osl⟩ ∧ PySem.W.codeIn K cdv x = true ∧ PySem.W.keepIn K (.ref f) = true ∧ K.lookup T = some oT ∧ oT.data = .seq its.toArray n ∧ Vals ds its
theorem dfd_mk {K : PySem.W.Frag} {mg : Str → Option Value} {h : Heap} {x : Str} {st : Stmt} {ds : List V} {its : List Value} {f T : Addr} {oT : Obj} {n : Nat} {oc : Value} {od an : Option Addr} {osl : Array (Option Value)} {kV doc pm cdv ct : Value} (X : K.In h) (G : h.Ns mainGlobals mg)
    (a : PySem.W.nsIn K mainGlobals x = some (some (.ref f))) (l : K.lookup f = some ⟨oc,od,.func (PySem.W.fnOf x x (defArgs st) (defBody st) (defScope st) (.ref T) kV doc pm an cdv ct),osl⟩) (c : PySem.W.codeIn K cdv x = true) (k : PySem.W.keepIn K (.ref f) = true)
    (t : K.lookup T = some oT) (d : oT.data = .seq its.toArray n) (v : Vals ds its) : DfD K mg x st ds := ⟨⟨f,T,oT,n,its,oc,od,kV,doc,pm,an,cdv,ct,osl,PySem.W.mg_of X G a,l,c,k,t,d,v⟩⟩
theorem DfD.fx {P : Program} {w : World} {K : PySem.W.Frag} {mg : Str → Option Value} {base : Heap} {x : Str} {st : Stmt} {ds : List V} {N ps : List Str} {k : Nat} {sp : Sp} (D : DfD K mg x st ds) (S : FnScope N ps (defScope st))
    (hb : ∀ (T : Addr) (kV doc pm : Value) (an : Option Addr) (cdv ct : Value) (us its : List Value) (oT : Obj) (n : Nat) (s : Shared),Vals ds its → us.length = ps.length → s.heap.get? T = some oT → oT.data = .seq its.toArray n →
      BindsTo s (PySem.W.fnOf x x (defArgs st) (defBody st) (defScope st) (.ref T) kV doc pm an cdv ct) ⟨us,[]⟩ (ps.zip us))
    (hd : ∀ (T : Addr) (kV doc pm : Value) (an : Option Addr) (cdv ct : Value) (us its : List Value) (oT : Obj) (n : Nat) (s : Shared),Vals ds its → (us ++ its).length = ps.length → s.heap.get? T = some oT → oT.data = .seq its.toArray n →
      BindsTo s (PySem.W.fnOf x x (defArgs st) (defBody st) (defScope st) (.ref T) kV doc pm an cdv ct) ⟨us,[]⟩ (ps.zip (us ++ its)))
    (len : ∀ vs H Q E,sp vs H Q E → vs.length = ps.length)
    (hbody : ∀ (f : Addr) (cdv : Value) (A : Around) (outer : List Env) (s : Shared) (H : Hp) (vs : List V) (Q : VK) (E : XK),Room k (A.deeper (envOfC x (defScope st) s.heap.objs.size f cdv)) → sp vs H Q E →
      ∃ t,PSs (cxOf (CXE P w) P w K mg base N x (defScope st) f cdv A outer s H E) (defBody st) t ∧ t { nx := fun _ H' => Q .non H',rt := Q } (start N vs) H) : Fx P w K mg base x ps (k + 1) ds sp := by
  obtain ⟨f,T,oT,n,its,oc,od,kV,doc,pm,an,cdv,ct,osl,hm,lk,hcd,hk,hT,hs,hv⟩ := D.ex
  refine ⟨⟨f,_,its,hm,hk,fun s us KX hl => ?_,fun s us KX hl => hd T kV doc pm an cdv ct us its oT n s hv hl (KX _ _ hT) hs,hv,fn_of lk hcd S len fun A outer s H vs Q E hr hsp => hbody f cdv A outer s H vs Q E hr hsp⟩⟩
  rw [List.append_nil] at hl ⊢
  exact hb T kV doc pm an cdv ct us its oT n s hv hl (KX _ _ hT) hs
theorem Df.fx {P : Program} {w : World} {K : PySem.W.Frag} {mg : Str → Option Value} {base : Heap} {x : Str} {st : Stmt} {N ps : List Str} {k : Nat} {sp : Sp} (D : Df K mg x st) (S : FnScope N ps (defScope st))
    (hbind : ∀ (kV doc pm : Value) (an : Option Addr) (cdv ct : Value) (us : List Value),us.length = ps.length → bindArgs (PySem.W.fnOf x x (defArgs st) (defBody st) (defScope st) .none kV doc pm an cdv ct) ⟨us,[]⟩ = pure (ps.zip us))
    (len : ∀ vs H Q E,sp vs H Q E → vs.length = ps.length)
    (hbody : ∀ (f : Addr) (cdv : Value) (A : Around) (outer : List Env) (s : Shared) (H : Hp) (vs : List V) (Q : VK) (E : XK),Room k (A.deeper (envOfC x (defScope st) s.heap.objs.size f cdv)) → sp vs H Q E →
      ∃ t,PSs (cxOf (CXE P w) P w K mg base N x (defScope st) f cdv A outer s H E) (defBody st) t ∧ t { nx := fun _ H' => Q .non H',rt := Q } (start N vs) H) : Fx P w K mg base x ps (k + 1) [] sp := by
  obtain ⟨f,oc,od,kV,doc,pm,an,cdv,ct,osl,hm,lk,hcd,hk⟩ := D.ex
  have hb : Binds K (PySem.W.fnOf x x (defArgs st) (defBody st) (defScope st) .none kV doc pm an cdv ct) ps [] := .all (hbind kV doc pm an cdv ct)
  exact ⟨⟨f,_,[],hm,hk,hb,hb,.nil,fn_of lk hcd S len fun A outer s H vs Q E hr hsp => hbody f cdv A outer s H vs Q E hr hsp⟩⟩
theorem pe_fx {P : Program} {w : World} {K : PySem.W.Frag} {mg : Str → Option Value} {base : Heap} {N : List Str} {qual : Str} {scope : Scope} {f : Addr} {cdv : Value} {A : Around} {outer : List Env} {s₀ : Shared} {H₀ : Hp} {E : XK}
    {x : Str} {ps : List Str} {k : Nat} {ds : List V} {sp : Sp} {p pos : Pos} {e : Expr} {es : List Expr} {t : TA} (F : Fx P w K mg base x ps k ds sp) (hr : Room k (cxOf (CXE P w) P w K mg base N qual scope f cdv A outer s₀ H₀ E).A) (hg : Gl (cxOf (CXE P w) P w K mg base N qual scope f cdv A outer s₀ H₀ E) x)
    (ha : PA (cxOf (CXE P w) P w K mg base N qual scope f cdv A outer s₀ H₀ E) (e :: es) t)
    (hdb : (x == ("__debug__" : Str)) = false := by decide) (he : starEach (e :: es) (cxOf (CXE P w) P w K mg base N qual scope f cdv A outer s₀ H₀ E).env = (false,eval e (cxOf (CXE P w) P w K mg base N qual scope f cdv A outer s₀ H₀ E).env) :: starEach es (cxOf (CXE P w) P w K mg base N qual scope f cdv A outer s₀ H₀ E).env := by rfl)
    (hpl : (backTo pos (starEach es (cxOf (CXE P w) P w K mg base N qual scope f cdv A outer s₀ H₀ E).env)).any (·.1) = false := by rfl) :
    PE (cxOf (CXE P w) P w K mg base N qual scope f cdv A outer s₀ H₀ E) (.Call (.Name x p) (e :: es) [] pos) (tCall sp [] E t) := by
  obtain ⟨g,fd,its,hm,hk,hb,_,_,G⟩ := F.ex
  exact pe_call G hr hg hm hk hb .nil (pass_on fun _ _ _ z => z) ha hdb he hpl
theorem pass_none {P : Program} {w : World} {X : Cx} : Passes (CXE P w) X E0 := fun _ _ _ _ _ _ _ h => by
  obtain ⟨_,_,_,_,_,_,_,_,_,_,_,_,q⟩ := h
  exact q.elim
theorem pe_fx0 {X : Cx} {x : Str} {ps : List Str} {k : Nat} {ds : List V} {sp : Sp} {p pos : Pos} {e : Expr} {es : List Expr} {t : TA} (F : Fx X.prog X.w X.K X.mg X.base x ps k ds sp) (hr : Room k X.A) (hg : Gl X x) (ha : PA X (e :: es) t)
    (hdb : (x == ("__debug__" : Str)) = false := by decide) (he : starEach (e :: es) X.env = (false,eval e X.env) :: starEach es X.env := by rfl) (hpl : (backTo pos (starEach es X.env)).any (·.1) = false := by rfl) :
    PE X (.Call (.Name x p) (e :: es) [] pos) (tCall sp [] E0 t) := by
  obtain ⟨g,fd,its,hm,hk,hb,_,_,G⟩ := F.ex
  exact pe_call G hr hg hm hk hb .nil pass_none ha hdb he hpl
theorem pe_fxd0 {X : Cx} {x : Str} {ps : List Str} {k : Nat} {ds : List V} {sp : Sp} {p pos : Pos} {e : Expr} {es : List Expr} {t : TA} (F : Fx X.prog X.w X.K X.mg X.base x ps k ds sp) (hr : Room k X.A) (hg : Gl X x) (ha : PA X (e :: es) t)
    (hdb : (x == ("__debug__" : Str)) = false := by decide) (he : starEach (e :: es) X.env = (false,eval e X.env) :: starEach es X.env := by rfl) (hpl : (backTo pos (starEach es X.env)).any (·.1) = false := by rfl) :
    PE X (.Call (.Name x p) (e :: es) [] pos) (tCall sp ds E0 t) := by
  obtain ⟨g,fd,its,hm,hk,_,hb,hv,G⟩ := F.ex
  exact pe_call G hr hg hm hk hb hv pass_none ha hdb he hpl
section
variable {X : Cx}
theorem run_fx {pins : List (Addr × Obj)} {s : Shared} {σ : St} {H : Hp} {Q : VK} {R : Value → St → Hp → Prop} {x : Str} {ps : List Str} {k : Nat} {ds : List V} {sp : Sp} {p pos : Pos} {e : Expr} {es : List Expr} {t : TA} (I : Inv X pins σ H s)
    (F : Fx X.prog X.w X.K X.mg X.base x ps k ds sp) (hr : Room k X.A) (hg : Gl X x) (ha : PA X.nox (e :: es) t) (q : t σ H fun vs H1 => sp vs H1 Q fun c _ H2 => R c σ H2)
    (hdb : (x == ("__debug__" : Str)) = false) (he : starEach (e :: es) X.env = (false,eval e X.env) :: starEach es X.env) (hpl : (backTo pos (starEach es X.env)).any (·.1) = false) :
    wpAny (model X.prog X.w) X.A (eval (.Call (.Name x p) (e :: es) [] pos) X.env) (EP X pins σ Q) (XP X pins R) s := by
  obtain ⟨f,fd,its,hm,hk,hb,_,_,G⟩ := F.ex
  refine wpAny_Call_Name_kw (ld_glob I hg hm ?_ hdb)
  refine PySem.W.callWith_K (h₀ := X.base) I.ok.mod.kin hk (wpAny_mono (ha pos pins s σ H _ (I.wish _) q) (fun us s1 ⟨vs,H1,J1,r,q1⟩ => ?_) fun _ _ z => False.elim z) he hpl
  have I1 : Inv X pins σ H1 s1 := J1.unwish
  refine ⟨I1.kIn,?_⟩
  have hl : (us ++ []).length = ps.length := by rw [List.append_nil,← r.length]; exact G.len _ _ _ _ q1
  have hbb := hb s1 us I1.kIn hl
  rw [List.append_nil] at hbb
  refine wpAny_call (codeAny_mono (G.run X.A X.stack s1 H1 ⟨us,[]⟩ us vs Q _ hr I1.env0 hbb r q1) fun rr s' hq => ?_)
  cases rr with
  | error ev => exact ⟨s1,σ,H1,(fun c _ H2 => R c σ H2),I1,hq,fun c o H' z => z⟩
  | ok flw =>
    cases flw with
    | ret u => exact I1.after hq
    | next => exact False.elim hq
    | brk => exact False.elim hq
    | cont => exact False.elim hq
variable {x fn : Str} {i : Nat} {ps : List Str} {k : Nat} {ds : List V} {sp : Sp} {e : Expr} {es : List Expr} {ta : TA} {px pf cpos pos : Pos}
theorem px_expr (F : Fx X.prog X.w X.K X.mg X.base fn ps k ds sp) (hr : Room k X.A) (hg : Gl X fn) (ha : PA X.nox (e :: es) ta) (hs : swapsWith (.Call (.Name fn pf) (e :: es) [] cpos) none pos.line X.env = pure false := by rfl)
    (hdb : (fn == ("__debug__" : Str)) = false := by decide) (he : starEach (e :: es) X.env = (false,eval e X.env) :: starEach es X.env := by rfl) (hpl : (backTo cpos (starEach es X.env)).any (·.1) = false := by rfl) :
    PX X (.Expr (.Call (.Name fn pf) (e :: es) [] cpos) pos) (fun R D σ H => ta σ H fun vs H1 => sp vs H1 (fun _ H2 => D.nx σ H2) fun c _ H2 => R c σ H2) := by
  intro pins s σ H D R I h
  exact wpAny_Expr_any (thn (run_fx I F hr hg ha h hdb he hpl) fun v s1 ⟨y,H1,I1,r1,q1⟩ => ⟨σ,H1,I1,q1⟩) I.quiet hs
theorem pxs_one {st : Stmt} {t : TX} (h1 : PX X st t) : PXs X [st] t := by
  intro pins s σ H D R I h
  refine wpAny_execs_cons (thn (h1 pins s σ H D R I h) fun f s1 q => ?_)
  cases f with
  | next => exact wpAny_execs_nil q
  | ret v => exact q
  | brk => exact q
  | cont => exact q
end
end L2
namespace Sp2
open PySem PySem.Spec L2 Mth Sp1
end Sp2
namespace L2
open PySem PySem.Spec PyProof.Rows
end L2
namespace L2
open PySem PySem.Spec PyProof.Rows
abbrev Cx.blk (X : Cx) (N' : List Str) (scope : Scope) (cl : List (Str × Addr)) (fp : List Addr) (s₀ : Shared) (H₀ : Hp) : Cx :=
  { X with N := N',s₀ := s₀,H₀ := H₀,env := compEnvC scope cl s₀.heap.objs.size X.env,outer := X.stack,ex := fp,fn := fun _ => false,pn := [],xe := fun _ _ => False }
theorem lookup_mem {α : Type} {y : Str} {c : α} : ∀ {l : List (Str × α)},l.lookup y = some c → (y,c) ∈ l
  | [],h => by simp at h
  | (n,d) :: r,h => by
    rw [List.lookup_cons] at h
    cases e : y == n with
    | true =>
      rw [e] at h
      cases h
      rw [beq_iff_eq.mp e]
      exact List.mem_cons_self
    | false =>
      rw [e] at h
      exact List.mem_cons_of_mem _ (lookup_mem h)
structure CompN (X : Cx) (scope : Scope) (cl : List (Str × Addr)) (x : Str) (fv : List (Str × Nat)) : Prop where
  clos : closureFor scope X.env = pure cl
  kind : scope.kind = .function
  cell : ∀ y ∈ scope.names,y.2 ≠ .cell
  names : ∀ y ∈ scope.names,y.2 = .local → scope.names.lookup y.1 = some .local
  own : scope.names.lookup x = some .local
  cells : ∀ p ∈ cl,X.env.cells.lookup p.1 = some p.2
  has : ((relabel scope X.env).names.all fun q => !(q.2 == .cell || q.2 == .free) || (cl.lookup q.1).isSome) = true
  nd : (x :: fv.map (·.1)).Nodup
  slot : ∀ p ∈ fv,X.N[p.2]? = some p.1 ∧ X.env.kindOf p.1 = some .cell ∧ Vis X.env.scope p.1 ∧ (cl.lookup p.1).isSome = true ∧ ((relabel scope X.env).names.lookup p.1 = some .cell)
  stk : X.stack = X.env :: X.outer ∧ X.env.frame = some X.env.locals
  noex : X.ex = []
def fvs (fv : List (Str × Nat)) (σ : St) : St := fv.map fun p => (σ[p.2]?).join
def tComp (wi : TI) (fv : List (Str × Nat)) (te : TE) : TE := fun σ H Q => wi σ H fun J H1 => ∀ p,H1 p = none → ∃ W : Nat → Nat → List V → Hp → Prop,(∃ m,W 0 m [] (upd H1 p (.lst []))) ∧ ∀ i m acc H2,W i m acc H2 →
  H2 p = some (.lst acc) ∧ acc.length < sizeLine ∧ ((J.stop i H2 ∧ Q (.ref p) H2) ∨ (J.go i H2 ∧ ∀ x H3,J.yld i H2 x H3 → te (some x :: fvs fv σ) H3 fun y H4 => H4 p = some (.lst acc) ∧ ∃ m',m' < m ∧ W (i + 1) m' (acc ++ [y]) (upd H4 p (.lst (acc ++ [y])))))
section
variable {X : Cx} {scope : Scope} {cl : List (Str × Addr)} {x : Str} {fv : List (Str × Nat)} {elt iter : Expr} {px pos : Pos} {te : TE}
theorem blk_ok {pins : List (Addr × Obj)} {σ : St} {H : Hp} {s : Shared} {fp : List Addr} (C : CompN X scope cl x fv) (I : Inv X pins σ H s) (hf : ∀ b ∈ fp,FpOk X pins H b) (ho : ∀ b ∈ fp,b < s.heap.objs.size) : (X.blk (x :: fv.map (·.1)) scope cl fp s H).Ok := by
  have hcl : ∀ y c,cl.lookup y = some c → X.env.cells.lookup y = some c := fun y c h => C.cells _ (lookup_mem h)
  have old : ∀ b ∈ fp,X.s₀.heap.objs.size ≤ b := fun b hb => by
    rcases (hf b hb).2.2.2.1 with z | z
    · rw [C.noex] at z
      cases z
    · exact z
  refine ⟨I.ok.mod,by show (relabel scope X.env).kind = _; exact C.kind,I.ok.glob,I.ok.blt,Nat.le_refl _,fun y z c h1 h2 => I.ok.inj y z c (hcl y c h1) (hcl z c h2),fun y hy => ?_,(fun y c h => by cases h),I.ok.hd,I.ok.frames,.inl rfl,fun b hb => ?_,fun b o e => I.bs b o e,Nat.le_trans I.ok.bsz I.sz,fun b o e hb => ?_,fun b hb hm => ?_,I.stack,I.stkFree⟩
  · have q := C.has
    rw [List.all_eq_true] at q
    have hm : ∃ k,(y,k) ∈ (relabel scope X.env).names ∧ (k = .cell ∨ k = .free) := by
      rcases hy with hy | hy
      · exact ⟨_,lookup_mem hy,.inl rfl⟩
      · exact ⟨_,lookup_mem hy,.inr rfl⟩
    obtain ⟨k,hk,hk2⟩ := hm
    have q2 := q _ hk
    have q3 : (cl.lookup y).isSome = true := by
      rcases hk2 with rfl | rfl
      · simpa using q2
      · simpa using q2
    exact Option.isSome_iff_exists.mp q3
  · obtain ⟨f0,f1,f2,f3,f4,f5⟩ := hf b hb
    refine ⟨?_,fun y c h => f4 y c (hcl y c h)⟩
    exact Nat.ne_of_lt (ho b hb)
  · have z := Heap.lt_size e
    have z2 := old b hb
    exact absurd (Nat.lt_of_lt_of_le z (Nat.le_trans I.ok.bsz z2)) (Nat.lt_irrefl _)
  · obtain ⟨f0,f1,f2,f3,f4,f5⟩ := hf b hb
    rcases List.mem_cons.mp (I.stkSub b hm) with z | z
    · exact f1 z
    · exact f2 z
theorem blk_inv {pins : List (Addr × Obj)} {σ : St} {H : Hp} {s s4 : Shared} {fp : List Addr} (C : CompN X scope cl x fv) (I : Inv X pins σ H s) (hf : ∀ b ∈ fp,FpOk X pins H b) (ho : ∀ b ∈ fp,b < s.heap.objs.size)
    (hs : s4.os = s.os ∧ s4.gens = s.gens) (ns : s4.heap.Ns s.heap.objs.size fun _ => none) (kp : ∀ b o,s.heap.get? b = some o → s4.heap.get? b = some o) :
    Inv (X.blk (x :: fv.map (·.1)) scope cl fp s H) [] (none :: fvs fv σ) H s4 := by
  have hcl : ∀ y c,cl.lookup y = some c → X.env.cells.lookup y = some c := fun y c h => C.cells _ (lookup_mem h)
  refine ⟨blk_ok C I hf ho,hs.1,by rw [hs.2]; exact I.bare,Un.kept kp,⟨_,ns,fun i y v e1 e2 e3 => ?_⟩,fun y c h => ?_,I.hok.fresh (Nat.le_refl _),fun y c h => I.freeC y c (hcl y c h),fun p hp => by simp at hp,I.hok.kept kp,by simp [fvs]⟩
  · cases i with
    | zero => simp at e2
    | succ j =>
      have e1' : (fv.map (·.1))[j]? = some y := by simpa using e1
      have e2' : (fvs fv σ)[j]? = some (some v) := by simpa using e2
      rw [List.getElem?_map] at e1'
      unfold fvs at e2'
      rw [List.getElem?_map] at e2'
      cases hq : fv[j]? with
      | none =>
        rw [hq] at e1'
        cases e1'
      | some q =>
        rw [hq] at e1' e2'
        have ey : q.1 = y := Option.some.inj e1'
        have ev : (σ[q.2]?).join = some v := Option.some.inj e2'
        have hm : q ∈ fv := List.mem_of_getElem? hq
        obtain ⟨s1,s2,s3,s4',s5⟩ := C.slot q hm
        have ev2 : σ[q.2]? = some (some v) := by
          cases hz : σ[q.2]? with
          | none =>
            rw [hz] at ev
            cases ev
          | some z =>
            rw [hz] at ev
            have ev' : z = some v := ev
            rw [ev']
        obtain ⟨m,hn,hl⟩ := I.loc
        obtain ⟨u,r,lk⟩ := hl q.2 q.1 v s1 ev2 s3
        obtain ⟨c,hc⟩ := Option.isSome_iff_exists.mp s4'
        refine ⟨u,r,.inr ⟨.inl (by rw [← ey]; exact s5),c,by rw [← ey]; exact hc,?_⟩⟩
        rcases lk with ⟨k,_⟩ | ⟨_,c',hc',z⟩
        · rw [s2] at k
          cases k
        · rw [hcl _ _ hc] at hc'
          cases hc'
          obtain ⟨o,ho',hd⟩ := z
          exact ⟨o,kp _ _ ho',hd⟩
  · obtain ⟨v,o,ho',hd⟩ := I.cell y c (hcl y c h)
    exact ⟨v,o,kp _ _ ho',hd⟩
theorem blk_run {pins : List (Addr × Obj)} {σ : St} {H2 : Hp} {s2 : Shared} {it : Addr} {fp : List Addr} {tn : Nat → Heap → Prop} {J : It} {RR : Value → Addr → Result → Shared → Prop} {E : Value → Shared → Prop} {Qf : V → Hp → Prop}
    (hcalm : X.calm = true) (C : CompN X scope cl x fv) (I2 : Inv X pins σ H2 s2) (T : Turn X.prog X.w X.K (.Name x px) J fp it tn) (st : tn 0 s2.heap) (f2 : ∀ b ∈ fp,FpOk X pins H2 b)
    (rd : ∀ p,H2 p = none → ∃ W : Nat → Nat → List V → Hp → Prop,(∃ m,W 0 m [] (upd H2 p (.lst []))) ∧ ∀ i m acc H2,W i m acc H2 →
      H2 p = some (.lst acc) ∧ acc.length < sizeLine ∧ ((J.stop i H2 ∧ Qf (.ref p) H2) ∨ (J.go i H2 ∧ ∀ x H3,J.yld i H2 x H3 → te (some x :: fvs fv σ) H3 fun y H4 => H4 p = some (.lst acc) ∧ ∃ m',m' < m ∧ W (i + 1) m' (acc ++ [y]) (upd H4 p (.lst (acc ++ [y]))))))
    (he : ∀ (s₀ : Shared) (H₀ : Hp),PE (X.blk (x :: fv.map (·.1)) scope cl fp s₀ H₀) elt te)
    (hRR : ∀ (p C : Addr) (H' : Hp) (s' : Shared),(∃ m,s'.heap.Ns C m) → C ≠ X.env.locals → H' C = none → X.s₀.heap.objs.size ≤ C → (∀ y c,X.env.cells.lookup y = some c → c ≠ C) → (∀ q ∈ X.pn ++ pins,q.1 ≠ C) → Inv X pins σ H' s' → Qf (.ref p) H' → RR (.ref p) C (.ok .next) s') :
    wpAny (model X.prog X.w) X.A (newList []) (fun acc s₃ => wpAny (model X.prog X.w) X.A (newFunctionEnv scope X.env.globals cl [] X.env.qual none .none (some X.env)) (fun cenv s₄ =>
      codeAny (model X.prog X.w) X.A (.compStart (.ListComp elt [⟨.Name x px,iter,[],0⟩] scope pos) 0 (.ref it) acc { cenv with scope := relabel scope X.env }) (RR acc cenv.locals) s₄) E s₃) E s2 := by
  refine wpAny_newObj_type ?_
  have hfresh := I2.fresh
  have I3 : Inv X pins σ (upd H2 s2.heap.objs.size (.lst [])) { s2 with heap := s2.heap.push { cls := .type "list",data := .seq ([] : List Value).toArray } } :=
    I2.laid (t' := s2.toks) (fun b u q => Heap.get?_push_of_some _ q) (Nat.le_refl _) ⟨Nat.zero_le _,[],0,.nil,Heap.get?_push_size _ rfl⟩
  generalize hs3 : ({ s2 with heap := s2.heap.push { cls := .type "list",data := .seq ([] : List Value).toArray } } : Shared) = s3 at I3 ⊢
  have hp3 : s2.heap.objs.size < s3.heap.objs.size := by rw [← hs3]; exact Nat.lt_of_lt_of_le (Nat.lt_succ_self _) (Nat.le_of_eq (Heap.size_push _ _).symm)
  have k23 : ∀ b o,s2.heap.get? b = some o → s3.heap.get? b = some o := fun b o e => by rw [← hs3]; exact Heap.get?_push_of_some _ e
  have fpo : ∀ b ∈ fp,b < s2.heap.objs.size := fun b hb => by
    obtain ⟨o,e,_⟩ := T.obj 0 _ st b hb
    exact Heap.lt_size e
  have f3 : ∀ b ∈ fp,FpOk X pins (upd H2 s2.heap.objs.size (.lst [])) b := fun b hb => ⟨by rw [upd_ne (Nat.ne_of_lt (fpo b hb))]; exact (f2 b hb).1,(f2 b hb).2⟩
  refine wpAny_newFunctionEnv C.cell (by intro y hy; simp at hy) (fun h1 hns1 hsb1 => ?_) C.kind
  have kp : ∀ b o,s3.heap.get? b = some o → h1.get? b = some o := fun b o e => (hsb1.2 b (Nat.ne_of_lt (Heap.lt_size e))).trans (Heap.get?_push_of_some _ e)
  have I4 := blk_inv (s4 := { s3 with heap := h1,toks := s3.toks + ([] : List (Str × Value)).length }) C I3 f3 (fun b hb => Nat.lt_trans (fpo b hb) hp3) ⟨rfl,rfl⟩ hns1 kp
  have st4 : tn 0 h1 := T.keep 0 _ _ st fun b _ o e => kp b o (k23 b o e)
  obtain ⟨W,⟨m0,w0⟩,step⟩ := rd _ hfresh
  have loop : codeAny (model X.prog X.w) X.A (.compLoop (.ListComp elt [⟨.Name x px,iter,[],0⟩] scope pos) 0 (.ref it) (.ref s2.heap.objs.size) (compEnvC scope cl s3.heap.objs.size X.env)) (RR (.ref s2.heap.objs.size) s3.heap.objs.size)
      { s3 with heap := h1,toks := s3.toks + ([] : List (Str × Value)).length } := by
    refine codeAny_compLoop_list (fun n s => ∃ i acc σv H',Inv (X.blk (x :: fv.map (·.1)) scope cl fp s3 (upd H2 s2.heap.objs.size (.lst []))) [] (σv :: fvs fv σ) H' s ∧ tn i s.heap ∧ (∀ b ∈ fp,H' b = none) ∧ W i n acc H') ?_ m0 ⟨0,[],none,_,I4,st4,fun b hb => (f3 b hb).1,w0⟩
    rintro n s ⟨i,acc,σv,H',I',st',fr',w'⟩
    obtain ⟨hp,hlen,alt⟩ := step i n acc H' w'
    have fpk : ∀ {H5 : Hp},(∀ b ∈ fp,H5 b = none) → ∀ b ∈ fp,FpOk (X.blk (x :: fv.map (·.1)) scope cl fp s3 (upd H2 s2.heap.objs.size (.lst []))) [] H5 b := fun h5 b hb =>
      ⟨h5 b hb,(I'.ok.exf b hb).1,I'.ok.exfs b hb,.inl hb,fun y c e => (I'.ok.exf b hb).2 y c e,fun q hq => by simp at hq⟩
    rcases alt with ⟨stop,qf⟩ | ⟨go,turn⟩
    · refine wpAny_mono (T.done (X.blk (x :: fv.map (·.1)) scope cl fp s3 (upd H2 s2.heap.objs.size (.lst []))) rfl rfl rfl hcalm i [] s _ H' (fun _ _ => False) I' (fpk fr') st' stop) (fun r s5 ⟨hr,I5⟩ => ?_) fun _ _ z => False.elim z
      subst hr
      refine hRR _ _ H' s5 (let ⟨m,hn,_⟩ := I5.loc; ⟨m,hn⟩) (Nat.ne_of_gt I3.lt) I5.free I3.sz (fun y c e => ?_) (fun q hq => ?_) ?_ qf
      · obtain ⟨v,z⟩ := I3.cell y c e
        exact Nat.ne_of_lt z.lt
      · exact Nat.ne_of_lt (Heap.lt_size (I3.pin q hq).1)
      · exact I3.call' (s' := s5) (ch := fp) I5.os I5.base I5.hok I5.bare fun b hb => ⟨(f2 b hb).2.2.2.1,(f2 b hb).2.1,(f2 b hb).2.2.2.2.1,(f2 b hb).2.2.2.2.2⟩
    · refine wpAny_mono (T.item (X.blk (x :: fv.map (·.1)) scope cl fp s3 (upd H2 s2.heap.objs.size (.lst []))) rfl rfl rfl hcalm i [] s _ H' (fun _ _ => False) I' (fpk fr') st' go) (fun r s5 ⟨u,hr,h5⟩ => ?_) fun _ _ z => False.elim z
      subst hr
      have e5 : assign (.Name x px) (compEnvC scope cl s3.heap.objs.size X.env) u = (letOwnedTupleGo (.Name x px) (.ref it) u >>= fun _ => assign (.Name x px) (compEnvC scope cl s3.heap.objs.size X.env) u) := by
        rw [show letOwnedTupleGo (.Name x px) (.ref it) u = pure () from rfl]
        rfl
      show wpAny _ _ (assign (.Name x px) (compEnvC scope cl s3.heap.objs.size X.env) u) _ _ _
      rw [e5]
      refine wpAny_bind (wpAny_mono h5 (fun _ s6 ⟨y,H6,I6,r6,y6,st6,fr6⟩ => ?_) fun _ _ z => False.elim z)
      have I6' := I6.pinned (fpk fr6) (T.obj _ _ st6)
      have lx : (relabel scope X.env).names.lookup x = some .local := lookup_relabel_local C.own
      refine wpAny_mono (pg_name (X := X.blk (x :: fv.map (·.1)) scope cl fp s3 (upd H2 s2.heap.objs.size (.lst []))) (i := 0) C.nd rfl (.inl lx) (.inr lx) _ s6 _ H6 y u (fun σ7 H7 => σ7 = some y :: fvs fv σ ∧ H7 = H6) I6' r6 ⟨rfl,rfl⟩) (fun _ s7 ⟨σ7,H7,I7,e7,e7'⟩ => ?_) fun _ _ z => False.elim z
      subst e7 e7'
      refine wpAny_mono (he s3 _ _ s7 _ _ _ I7 (turn y _ y6)) (fun v8 s8 ⟨y8,H8,I8,r8,q8,m',hm',w8⟩ => ?_) fun _ _ z => False.elim z
      refine wpAny_mono (mt_append (X := X.blk (x :: fv.map (·.1)) scope cl fp s3 (upd H2 s2.heap.objs.size (.lst []))) _ s8 _ H8 (.ref s2.heap.objs.size) [y8] (.ref s2.heap.objs.size) [v8] (fun _ H9 => H9 = upd H8 s2.heap.objs.size (.lst (acc ++ [y8]))) I8 rfl (.cons r8 .nil) ⟨_,acc,y8,rfl,rfl,q8,hlen,rfl⟩) (fun _ s9 ⟨_,H9,I9,_,e9⟩ => ?_) fun _ _ z => False.elim z
      subst e9
      refine ⟨m',hm',i + 1,acc ++ [y8],some y,_,I9.unpinned,T.keep _ _ _ st6 fun b hb o e => (I9.pin (b,o) (List.mem_append_right _ (List.mem_append_right _ (mem_pinsAt hb e)))).1,fun b hb => ?_,w8⟩
      obtain ⟨o,e,d⟩ := T.obj _ _ st6 b hb
      exact (I9.pin (b,o) (List.mem_append_right _ (List.mem_append_right _ (mem_pinsAt hb e)))).2.1
  exact codeAny_compStart_list loop (T.self _ 0 _ _ _ st4 loop)
theorem pe_comp {wi : TI} (hcalm : X.calm = true) (C : CompN X scope cl x fv) (hi : PI X (.Name x px) iter wi) (he : ∀ (fp : List Addr) (s₀ : Shared) (H₀ : Hp),PE (X.blk (x :: fv.map (·.1)) scope cl fp s₀ H₀) elt te)
    (hs : ∀ v,foldedSetIterable iter X.env v = pure v := by intro _; rfl) : PE X (.ListComp elt [⟨.Name x px,iter,[],0⟩] scope pos) (tComp wi fv te) := by
  intro pins s σ H Q I h
  rw [eval_ListComp]
  refine wpAny_comprehension_free (use := none) rfl hs C.clos C.kind C.names (wpAny_mono (hi pins s σ H _ I h) (fun v s1 h1 => wpAny_mono h1 (fun itv s2 h2 => ?_) fun _ _ z => z) fun _ _ z => z)
  obtain ⟨it,fp,tn,J,H2,rfl,I2,T,st2,f2,rd⟩ := h2
  refine blk_run (Qf := Q) hcalm C I2 T st2 f2 rd (he fp) fun p D H' s' ns nL nH n0 nC nP I8 q => ?_
  obtain ⟨m,hn⟩ := ns
  exact ⟨m,hn,fun h'' sb => ⟨.ref p,H',I8.turned (t' := s'.toks) (fun b o hb e => (sb.2 b hb).trans e) nH nL (.inr n0) nC nP,rfl,q⟩⟩
end
end L2
namespace L2
open PySem PySem.Spec PyProof.Rows
theorem comp_range {n : Nat} {lo : Int} {fv : List (Str × Nat)} {te : TE} {σ : St} {H1 : Hp} {Qp : Hp → Prop} {l : Addr} (Pv : Nat → List V → Hp → Prop) (h0 : Pv 0 [] (upd H1 l (.lst []))) (hp : ∀ i acc H2,i ≤ n → Pv i acc H2 → H2 l = some (.lst acc) ∧ acc.length < sizeLine)
    (hs : ∀ i acc H2 (K : VK),i < n → Pv i acc H2 → (∀ y H4,H4 l = some (.lst acc) → Pv (i + 1) (acc ++ [y]) (upd H4 l (.lst (acc ++ [y]))) → K y H4) → te (some (.int (lo + i)) :: fvs fv σ) H2 K) (hd : ∀ acc H2,Pv n acc H2 → Qp H2) :
    ∃ W : Nat → Nat → List V → Hp → Prop,(∃ m,W 0 m [] (upd H1 l (.lst []))) ∧ ∀ i m acc H2,W i m acc H2 →
      H2 l = some (.lst acc) ∧ acc.length < sizeLine ∧ (((Itr lo n).stop i H2 ∧ Qp H2) ∨ ((Itr lo n).go i H2 ∧ ∀ x H3,(Itr lo n).yld i H2 x H3 → te (some x :: fvs fv σ) H3 fun y H4 => H4 l = some (.lst acc) ∧ ∃ m',m' < m ∧ W (i + 1) m' (acc ++ [y]) (upd H4 l (.lst (acc ++ [y]))))) := by
  refine ⟨fun i m acc H2 => m = n - i ∧ i ≤ n ∧ Pv i acc H2,⟨n,by simp,Nat.zero_le _,h0⟩,?_⟩
  rintro i m acc H2 ⟨rfl,hi,p⟩
  refine ⟨(hp i acc H2 hi p).1,(hp i acc H2 hi p).2,?_⟩
  by_cases hlt : i < n
  · refine .inr ⟨hlt,fun x H3 y => ?_⟩
    obtain ⟨e1,e2⟩ := y
    subst e1 e2
    exact hs i acc _ _ hlt p fun y H4 z1 z2 => ⟨z1,n - (i + 1),by omega,rfl,hlt,z2⟩
  · have e : i = n := by omega
    subst e
    exact .inl ⟨Nat.le_refl _,hd acc H2 p⟩
end L2
namespace L2
open PySem PySem.Spec PyProof.Rows
end L2
namespace L2
open PySem PySem.Spec PyProof.Rows
end L2
namespace L2
open PySem PySem.Spec PyProof.Rows
theorem val_get {xs : List V} {us : List Value} {j : Nat} (r : Vals xs us) (h : j < us.length) : ∃ a,xs[j]? = some a ∧ RelV a us[j] := by
  have hl := r.length
  have hj : j < xs.length := by omega
  obtain ⟨u,e,q⟩ := r.get (i := j) (x := xs[j]) (List.getElem?_eq_getElem hj)
  rw [List.getElem?_eq_getElem h] at e
  cases e
  exact ⟨xs[j],List.getElem?_eq_getElem hj,q⟩
section
variable {X : Cx} {pins : List (Addr × Obj)} {σ : St} {H : Hp} {s : Shared}
end
end L2
namespace L2
open PySem
theorem Room.units10 {k : Nat} {A : Around} (r : Room k A) : A.units + 10 < cLine := by have := r.un; omega
end L2
namespace L2
open PySem PySem.Spec PyProof.Rows
end L2
namespace Sp3
open PySem PySem.Spec L2 Mth Sp1 Sp2
end Sp3
namespace Sp3
open PySem PySem.Spec L2 Mth Sp1 Sp2
end Sp3
namespace PySem
open Sem (wp)
abbrev Lk {α : Type} (M : Model) (h : Heap) (t : Sem α) (r : α) : Prop := ∀ (A : Around) (Q : α → Shared → Prop) (E : Value → Shared → Prop) (g : Array GenState) (d : Drawn) (tk : Nat) (os : OsState),Q r ⟨h,g,d,tk,os⟩ → wpAny M A t Q E ⟨h,g,d,tk,os⟩
section
variable {prog : Program} {w : World} {A : Around} {E : Value → Shared → Prop} {h : Heap} {g : Array GenState} {d : Drawn} {t : Nat} {os : OsState} {a : Addr} {o : Obj}
  {nm q : Str} {C N : Addr} {bs bm : List Value} {hdct : Bool} {sn : List Str} {sub : List Value} {ab : Bool} {col : Option Bool} {dd : Option Addr} {k0 k1 k2 k3 k5 : Option Value} {newId : String}
theorem class_get_exc {R : Result → Shared → Prop} (atC : h.get? C = some (excClassObj nm q C N bs bm hdct sn sub ab col dd k0 k1 k2 k3 k5 newId)) (hO : bm.contains (.type "object") = true)
    (atE : h.get? a = some o) (clE : o.cls = .ref C) (fin : R (.ok (.ret (.ref C))) ⟨h,g,d,t,os⟩) :
    codeAny (model prog w) A (.call (.builtin "getset_descriptor.__get__") ⟨[.builtin "object.__class__",.ref a,.ref C],[]⟩) R ⟨h,g,d,t,os⟩ := by
  have tg : (⟨h,g,d,t,os⟩ : Shared).TypeIs (.builtin "object.__class__") "getset_descriptor" := F.typeOf_object_class
  have e0 : (".".intercalate ("object.__class__".cutAt '.').dropLast) = "object" := by
    have e0 : "object.__class__".cutAt '.' = ["object","__class__"] := by first | rfl | decide +kernel
    rw [e0]; decide +kernel
  have cont : (Value.ref C :: bm).contains (.type (".".intercalate ("object.__class__".cutAt '.').dropLast)) = true := by
    rw [e0,List.contains_cons,hO,Bool.or_true]
  refine codeAny_call_builtin F.slot_gs_get.plain F.entry_gs_get (F.slot_gs_get.check _ _ _ _ _ _ _ _ tg (F.args_gs_get _ _ _) ?_)
  repeat (any_goals (first | assumption | (with_reducible refine wpAny_loadPart_at atE ?_; rw [clE]) | (with_reducible refine wpAny_isSubtype_exc atC ?_; rw [cont]) | wp_step))
  refine ⟨Code.quiet_builtin _ (by decide +kernel),codeAny_builtin F.entry_object_class ?_⟩
  repeat (any_goals (first | assumption | (with_reducible refine wpAny_loadPart_at atE ?_; rw [clE]) | wp_step))
theorem check_ga_exc {M : Model} {nameV : Value} {Q : Unit → Shared → Prop} (atC : h.get? C = some (excClassObj nm q C N bs bm hdct sn sub ab col dd k0 k1 k2 k3 k5 newId)) (hB : bm.contains (.type "BaseException") = true)
    (atE : h.get? a = some o) (clE : o.cls = .ref C) (fin : Q () ⟨h,g,d,t,os⟩) : wpAny M A (checkBuiltinCall "BaseException.__getattribute__" ⟨[.ref a,nameV],[]⟩) Q E ⟨h,g,d,t,os⟩ := by
  have kd : builtinKind "BaseException.__getattribute__" = some .slot := by decide +kernel
  have spl : splitId "BaseException.__getattribute__" = some ("BaseException","__getattribute__") := by decide +kernel
  have cont : (Value.ref C :: bm).contains (.type "BaseException") = true := by rw [List.contains_cons,hB,Bool.or_true]
  have okA := F.args_bexc_ga (.ref a) nameV
  simp only [checkBuiltinCall,kd,spl]
  refine wpAny_bind ?_
  · unfold isInstance
    repeat (first | (with_reducible refine wpAny_loadPart_at atE ?_; rw [clE]) | (with_reducible refine wpAny_isSubtype_exc atC ?_; rw [cont]) | wp_step)
    exact fin
theorem class_entry_exc {tk : Tok} {Q : Fin → Shared → Prop} (atC : h.get? C = some (excClassObj nm q C N bs bm hdct sn sub ab col dd k0 k1 k2 k3 k5 newId)) (hO : bm.contains (.type "object") = true)
    (lc : Lk (model prog w) h (typeLookup (.ref C) "__class__") (some (.builtin "object.__class__"))) (atE : h.get? a = some o) (clE : o.cls = .ref C) (fin : Q (.done (.ret (.ref C))) ⟨h,g,d,t,os⟩) :
    wpAny (model prog w) A (Builtin.«object.__getattribute__» ⟨[.ref a,.str "__class__" tk],[]⟩) Q E ⟨h,g,d,t,os⟩ := by
  have tg : (⟨h,g,d,t,os⟩ : Shared).TypeIs (.builtin "object.__class__") "getset_descriptor" := F.typeOf_object_class
  have tyC := F.typeOf_object_class
  have getL := F.slot_gs_get.lookup
  have setL := F.slot_gs_set.lookup
  repeat (any_goals (first | assumption | (with_reducible refine wpAny_loadPart_at atE ?_; rw [clE]) | with_reducible refine lc _ _ _ _ _ _ _ ?_ | wp_step))
  refine class_get_exc atC hO atE clE ?_
  repeat (any_goals (first | assumption | wp_step))
theorem class_by_exc {tk : Tok} {Q : Value → Shared → Prop} (atC : h.get? C = some (excClassObj nm q C N bs bm hdct sn sub ab col dd k0 k1 k2 k3 k5 newId)) (hO : bm.contains (.type "object") = true) (hB : bm.contains (.type "BaseException") = true)
    (lc : Lk (model prog w) h (typeLookup (.ref C) "__class__") (some (.builtin "object.__class__"))) (lg : Lk (model prog w) h (typeLookup (.ref C) "__getattribute__") (some (.builtin "BaseException.__getattribute__"))) (ln : Lk (model prog w) h (typeLookup (.ref C) "__getattr__") none)
    (atE : h.get? a = some o) (clE : o.cls = .ref C) (fin : Q (.ref C) ⟨h,g,d,t,os⟩) :
    wpAny (model prog w) A (getAttrBy (.ref a) (.str "__class__" tk) false) Q E ⟨h,g,d,t,os⟩ := by
  have bnd := F.excAttr_ValueError.ga.bind (.ref a)
  have nh2 : (Value.builtin "BaseException.__getattribute__" == Value.builtin "object.__getattribute__") = false := by decide +kernel
  have nh1 : (onTheHeap (Value.ref C) && Value.builtin "BaseException.__getattribute__" == Value.builtin "object.__getattribute__") = false := by rw [nh2]; rfl
  repeat (any_goals (first | assumption | (with_reducible refine wpAny_loadPart_at atE ?_; rw [clE]) | with_reducible refine lg _ _ _ _ _ _ _ ?_ | with_reducible refine ln _ _ _ _ _ _ _ ?_ | wp_step))
  refine codeAny_call_builtin F.excAttr_ValueError.ga.plain F.entry_bexc_ga (check_ga_exc atC hB atE clE (class_entry_exc atC hO lc atE clE ?_))
  repeat (any_goals (first | assumption | wp_step))
theorem class_attr_exc {Q : Option Value → Shared → Prop} (atC : h.get? C = some (excClassObj nm q C N bs bm hdct sn sub ab col dd k0 k1 k2 k3 k5 newId)) (hO : bm.contains (.type "object") = true) (hB : bm.contains (.type "BaseException") = true)
    (lc : Lk (model prog w) h (typeLookup (.ref C) "__class__") (some (.builtin "object.__class__"))) (lg : Lk (model prog w) h (typeLookup (.ref C) "__getattribute__") (some (.builtin "BaseException.__getattribute__"))) (ln : Lk (model prog w) h (typeLookup (.ref C) "__getattr__") none)
    (atE : h.get? a = some o) (clE : o.cls = .ref C) (fin : Q (some (.ref C)) ⟨h,g,d,t + 1,os⟩) :
    wpAny (model prog w) A (getAttr? (.ref a) "__class__") Q E ⟨h,g,d,t,os⟩ := by
  unfold getAttr?
  repeat (any_goals (first | assumption | with_reducible refine class_by_exc atC hO hB lc lg ln atE clE ?_ | wp_step))
end
end PySem
namespace L2
open PySem PySem.Spec PyProof.Rows
def excO (C a : Addr) : HO := .ext fun h => ∃ o,h.get? a = some o ∧ o.cls = .ref C
theorem excO_ok {P : Program} {w : World} {H : Hp} {h : Heap} {a C : Addr} (e : ∃ o,h.get? a = some o ∧ o.cls = .ref C) : ObjOk P w H h a (excO C a) :=
  ⟨e,let ⟨o,e1,_⟩ := e; ⟨o,e1⟩,fun _ _ ⟨o,e1,e2⟩ k => ⟨o,k o e1,e2⟩⟩
structure ExcF (K : PySem.W.Frag) (C : Addr) : Prop where
  ga : PySem.W.findIn K (.ref C) "__getattribute__" = some (some (.builtin "BaseException.__getattribute__"))
  gn : PySem.W.findIn K (.ref C) "__getattr__" = some none
  cl : PySem.W.findIn K (.ref C) "__class__" = some (some (.builtin "object.__class__"))
theorem lk_of {K : PySem.W.Frag} {M : Model} {h : Heap} {C : Addr} {n : Str} {r : Option Value} (X : K.In h) (e : PySem.W.findIn K (.ref C) n = some r) : Lk M h (typeLookup (.ref C) n) r :=
  fun _ _ _ _ _ _ _ q => (PySem.W.looks_findIn X e).here q
theorem kitx_exc {K : PySem.W.Frag} {mg : Str → Option Value} {n : Str} {C a : Addr} (O : ExcC K mg n C) (f : ExcF K C) : PySem.W.KitX K (.ref a) (.ref C) (fun h => ∃ o,h.get? a = some o ∧ o.cls = .ref C) where
  ty := fun M h _ p => by
    obtain ⟨o,e1,e2⟩ := p
    exact e2 ▸ (PySem.W.Looks.ld e1).andThen .now
  it := fun M h X _ => by
    obtain ⟨bm,N',nm,qn,bs,hd,sn,sub,ab,col,dd,k0,k1,k2,k3,k5,mN,atC,_⟩ := O.obj h X
    intro A' Q' E' s' k q
    unfold isType loadHead
    exact wpAny_bind (wpAny_loadPart (k _ _ atC) (wpAny_pure q))
  ne := fun h tp dd' its n' sl X htp => by
    obtain ⟨bm,N',nm,qn,bs,hd,sn,sub,ab,col,dd,k0,k1,k2,k3,k5,mN,atC,_⟩ := O.obj h X
    refine Bool.eq_false_iff.mpr fun q => ?_
    cases Value.ref.inj (beq_iff_eq.mp q)
    rw [atC] at htp
    have z := congrArg Obj.cls (Option.some.inj htp)
    exact absurd (Value.type.inj z) (by decide)
  ca := fun {prog w A E Q s} X p k => by
    obtain ⟨h,g,d,t,os⟩ := s
    obtain ⟨o,e1,e2⟩ := p
    obtain ⟨bm,N',nm,qn,bs,hd,sn,sub,ab,col,dd,k0,k1,k2,k3,k5,mN,atC,_,_,T⟩ := O.obj h X
    exact class_attr_exc atC (T.hasType (by decide +kernel)) (T.hasType (by decide +kernel)) (lk_of X f.cl) (lk_of X f.ga) (lk_of X f.gn) e1 e2 k
section
variable {X : Cx}
def rIsE (K : PySem.W.Frag) (C : Addr) : List V → Hp → VK → Prop := fun xs H Q => ∃ (a : Addr) (v : V) (b : Bool),xs = [.ref a,v] ∧ H a = some (excO C a) ∧
  ((∃ D,v = .ref D ∧ PySem.W.kitOne K (.ref C) (.ref D) = some b) ∨ (∃ T,v = .ty T ∧ PySem.W.kitOne K (.ref C) (.type T) = some b) ∨ (∃ (p : Addr) (ds : List Addr),v = .ref p ∧ H p = some (.tup (ds.map V.ref)) ∧ PySem.W.kitAny K (.ref C) (ds.map Value.ref) = some b)) ∧ Q (.bl b) H
theorem vals_refs : ∀ {ds : List Addr} {us : List Value},Vals (ds.map V.ref) us → us = ds.map Value.ref
  | [],us,r => by cases r; rfl
  | d :: ds,us,r => by
    cases r with
    | cons h t =>
      rw [vals_refs t]
      cases h
      rfl
theorem call_isexc {n : Str} {C : Addr} (O : ExcC X.K X.mg n C) (f : ExcF X.K C) : CallR X (.builtin "isinstance") (rIsE X.K C) := by
  intro pins s σ H xs us Q I rs h
  obtain ⟨a,v,b,rfl,ea,hv,q⟩ := h
  obtain ⟨u,u',rfl,ru,rv⟩ := vals2 rs
  cases ru
  have p : ∃ o,s.heap.get? a = some o ∧ o.cls = .ref C := (show ObjOk X.prog X.w H s.heap a (excO C a) from I.hok a _ ea).1
  rcases hv with ⟨D,rfl,e⟩ | ⟨T,rfl,e⟩ | ⟨p',ds,rfl,et,e⟩
  · cases rv
    exact PySem.W.kia_one (kitx_exc O f) I.kIn p e (by intro z; cases z) fun tk => ⟨.bl _,H,I.tok _,rfl,q⟩
  · cases (show u' = Value.type T from rv)
    exact PySem.W.kia_one (kitx_exc O f) I.kIn p e (by intro z; cases z) fun tk => ⟨.bl _,H,I.tok _,rfl,q⟩
  · cases rv
    obtain ⟨_,its,rv',⟨oc,odi,oda,osl⟩,eo,ec,nn,ed⟩ := I.hok _ _ et
    dsimp only at ec ed
    subst ec ed
    cases vals_refs rv'
    exact PySem.W.kia_tup (kitx_exc O f) I.kIn p eo e (by intro z; cases z) fun tk => ⟨.bl _,H,I.tok _,rfl,q⟩
end
section
variable {X : Cx} {pins : List (Addr × Obj)} {σ : St} {H : Hp} {s : Shared}
theorem Inv.track {a : Addr} {o : HO} (I : Inv X pins σ H s) (hn : H a = none) (h0 : X.s₀.heap.get? a = none) (hl : a ≠ X.env.locals) (hc : ∀ x c,X.env.cells.lookup x = some c → c ≠ a) (hp : ∀ p ∈ X.pn ++ pins,p.1 ≠ a)
    (ho : ObjOk X.prog X.w (upd H a o) s.heap a o) : Inv X pins σ (upd H a o) s where
  ok := I.ok
  os := I.os
  bare := I.bare
  base := {
    keep := I.base.keep
    slot := I.base.slot
    free := fun b ob e n hx => by
      rw [upd_ne (fun z => by subst z; rw [h0] at e; cases e)]
      exact I.base.free b ob e n hx
    there := I.base.there
    tups := fun b xs q => by
      have z := I.base.tups b xs q
      rw [upd_ne (ne_of_none z hn)]
      exact z
    frzs := fun b ob u q => by
      have z := I.base.frzs b ob u q
      rw [upd_ne (ne_of_none z hn)]
      exact z
    tbls := fun b ps q => by
      obtain ⟨m,z⟩ := I.base.tbls b ps q
      exact ⟨m,by rw [upd_ne (ne_of_none z hn)]; exact z⟩ }
  loc := I.loc
  cell := I.cell
  free := by rw [upd_ne (Ne.symm hl)]; exact I.free
  freeC := fun x c e => by rw [upd_ne (hc x c e)]; exact I.freeC x c e
  pin := fun p m => by
    obtain ⟨p1,p2,p3⟩ := I.pin p m
    exact ⟨p1,by rw [upd_ne (hp p m)]; exact p2,p3⟩
  hok := fun b u q => by
    by_cases hb : b = a
    · subst hb
      rw [upd_same] at q
      cases q
      exact ho
    · rw [upd_ne hb] at q
      exact (I.hok b u q).stay (fun _ _ _ r => r) (fun c r => by rw [upd_ne (ne_of_none r hn)]; exact r) fun c xs r => by rw [upd_ne (ne_of_none r hn)]; exact r
  len := I.len
theorem goes_ok {M : Model} {A : Around} {E : Value → Shared → Prop} {i : Nat} {x : Str} {pos : Pos} {Q : Unit → Shared → Prop} (I : Inv X pins σ H s) (hN : X.N.Nodup) (hi : X.N[i]? = some x) (hk : X.env.kindOf x = some .local)
    (h : ∀ s',Inv X pins (σ.set i none) H s' → Q () s') : wpAny M A (do bindName X.env x .none; unbindBehindTheSuite X.env x pos) Q E s := by
  obtain ⟨m,hn,hl⟩ := id I.loc
  have plain : (X.env.scope.kind == .class || (X.env.scope.kind == .module && X.env.locals != X.env.globals)) = false := by rw [I.ok.kind]; rfl
  have iσ : i < σ.length := by rw [I.len]; exact (List.getElem?_eq_some_iff.mp hi).1
  have cne := I.cne
  refine wpAny_nameGoes_keeps hk hn plain (fun h' v hn' sb => ?_)
  have far : ∀ {b : Addr} {o : Obj},X.s₀.heap.get? b = some o → b ≠ X.env.locals := fun e => Nat.ne_of_lt (Nat.lt_of_lt_of_le (Heap.lt_size e) I.ok.above)
  refine h _ ⟨I.ok,I.os,I.bare,⟨fun b o e n hb hx => (sb.2 b (far e)).trans (I.base.keep b o e n hb hx),fun b o e n hb hx => ?_,I.base.free,fun b o e hx => ?_,I.base.tups,I.base.frzs,I.base.tbls⟩,⟨_,hn',fun j y v' e1 e2 e3 => ?_⟩,fun y c e => ?_,I.free,I.freeC,fun p hp => ?_,fun b ob e => ?_,by simpa using I.len⟩
  · obtain ⟨sl,z⟩ := I.base.slot b o e n hb hx
    exact ⟨sl,(sb.2 b (far e)).trans z⟩
  · obtain ⟨o',z⟩ := I.base.there b o e hx
    exact ⟨o',(sb.2 b (far e)).trans z⟩
  · by_cases hj : j = i
    · subst hj
      rw [List.getElem?_set_self iσ] at e2
      cases e2
    · rw [List.getElem?_set_ne (Ne.symm hj)] at e2
      obtain ⟨u',r',q⟩ := hl j y v' e1 e2 e3
      refine ⟨u',r',?_⟩
      rcases q with ⟨k,e⟩ | ⟨k,c,e,z⟩
      · have ny : y ≠ x := fun e => hj (nodup_ix hN e1 (e ▸ hi))
        exact .inl ⟨k,by simp [ny,e]⟩
      · exact .inr ⟨k,c,e,z.sameBut sb (cne y c e)⟩
  · obtain ⟨w',z⟩ := I.cell y c e
    exact ⟨w',z.sameBut sb (cne y c e)⟩
  · obtain ⟨e,n,ne,nf,d⟩ := I.pin p hp
    exact ⟨(sb.2 p.1 ne).trans e,n,ne,nf,d⟩
  · refine (I.hok b ob e).stay (fun c w' hc q => (sb.2 c ?_).trans q) (fun _ q => q) fun _ _ q => q
    rintro rfl
    rcases hc with rfl | hc
    · rw [I.free] at e
      cases e
    · rw [I.free] at hc
      cases hc
end
def Ends.drop (D : Ends) (i : Nat) : Ends := { nx := fun σ H => D.nx (σ.set i none) H,rt := D.rt,bk := fun σ H => D.bk (σ.set i none) H,ct := fun σ H => D.ct (σ.set i none) H }
section
variable {X : Cx}
theorem caught_as {pins : List (Addr × Obj)} {σ : St} {H : Hp} {s s' : Shared} {E1 : XK} {ev : Value} {x en : Str} {B C : Addr} {np pos : Pos} {b₀ : Stmt} {suite : List Stmt} {rest : List ExceptHandler} {D : Ends} {th : TS} {Ex : Value → Shared → Prop} {i : Nat}
    (I : Inv X pins σ H s) (stk : X.stack = X.env :: X.outer) (hf : X.env.frame = some X.env.locals) (O : ExcC X.K X.mg x B) (hg : Gl X x) (hm : PySem.W.exmOne X.K (.ref C) (.ref B) = some true) (hex : X.ex = []) (hN : X.N.Nodup) (hi : X.N[i]? = some en) (hk : X.env.kindOf en = some .local) (h : CXE X.prog X.w X.stack H s E1 ev s')
    (hE : ∀ c o H',E1 c o H' → c = .ref C ∧ ∀ e : Addr,H' e = none → th (D.drop i) (σ.set i (some (.ref e))) (upd H' e (excO C e))) (hb : ∀ e : Addr,PSs (X.inH e) (b₀ :: suite) th) (hdb : (x == ("__debug__" : Str)) = false := by decide) :
    wpAny (model X.prog X.w) X.A (noteFrame ev X.env) (fun _ s₂ => wpAny (model X.prog X.w) X.A (setFlight ev none) (fun _ s₃ =>
      wpAny (model X.prog X.w) X.A (handleBy ev X.env (.ExceptHandler (some (.Name x np)) (some en) (b₀ :: suite) pos :: rest)) (SP X pins D) Ex s₃) Ex s₂) Ex s' := by
  obtain ⟨ea,t,cls,H',B',rfl,os,bare,un,hok,fl,big,q⟩ := h
  obtain ⟨rfl,rd⟩ := hE _ _ _ q
  have hfr := I.ok.frames
  rw [stk] at hfr
  have fr : ∀ b ∈ frs X.stack,H b = none ∧ ∀ o,s'.heap.get? b = some o → ∀ vs,o.data ≠ .fields vs := fun b hb => ⟨I.stkFree b hb,fun o eo => by
    obtain ⟨_,o',eo',nf⟩ := fl.2.2.1.mem hb
    rw [eo] at eo'
    cases eo'
    exact nf⟩
  have J : ∀ h2 : Heap,B'.StaysIn h2 → s'.heap.UpToSlots h2 → Inv X pins σ H' { s' with heap := h2 } := fun h2 st2 sl =>
    I.call' (s' := { s' with heap := h2 }) (ch := []) os (Un.fly un big fl.1 st2 sl fr) (HOk.fly hok big fl.1 st2) bare fun b z => absurd z (by simp)
  have hn : H' ea = none := by
    cases hz : H' ea with
    | none => rfl
    | some o =>
      obtain ⟨ob,e⟩ := big.tr ea o hz
      rw [fl.2.1] at e
      cases e
  have new : ∀ b o,s.heap.get? b = some o → b ≠ ea := fun b o e z => by
    subst z
    by_cases hb : b ∈ frs X.stack
    · obtain ⟨_,o',eo',nf⟩ := fl.2.2.1.mem hb
      obtain ⟨oe',vs,e1,_,e2,_⟩ := fl.first
      rw [eo'] at e1
      cases e1
      exact nf vs e2
    · obtain ⟨ob,e1⟩ := big.old b o e hb
      rw [fl.2.1] at e1
      cases e1
  have fl0 := fl
  rw [stk] at fl0
  refine wpAny_looks_onW (L := X.env.locals) hfr hf fl0 fun h4 hheld up4 => ?_
  refine wpAny_landsW hheld fun h5 fl5 up5 => ?_
  have up45 := up4.trans up5
  have I5 := (J h5 fl5.1 up45).inH ea
  obtain ⟨oe,he,hc⟩ := fl5.there
  refine wpAny_handleBy_cons (codeAny_handlers_test (ld_glob I5 hg O.bound ?_ hdb)) (by intro z; cases z)
  have LT : PySem.W.Looks (model X.prog X.w) h5 (typeOf (.ref ea)) (.ref C) := hc ▸ (PySem.W.Looks.ld he).andThen .now
  refine (PySem.W.exm_one I5.kIn LT hm).here (codeAny_handlers_suite_as ?_)
  refine lands_againW fl5 fun h6 fl6 up6 => ?_
  have I6 := (J h6 fl6.1 (up45.trans up6)).inH ea
  have I7 := I6.track (a := ea) (o := excO C ea) hn (by
    cases hz : X.s₀.heap.get? ea with
    | none => rfl
    | some o =>
      obtain ⟨o',e⟩ := I.base.there ea o hz (by rw [hex]; exact List.not_mem_nil)
      exact absurd rfl (new ea o' e)) (fun z => by
    obtain ⟨m,⟨o',_,_,e,_⟩,_⟩ := I.loc
    exact new _ o' e z.symm) (fun y c e z => by
    obtain ⟨v,o',e',_⟩ := I.cell y c e
    exact new _ o' e' z) (fun p hp z => new _ _ (I.pin p hp).1 z) (excO_ok fl6.there)
  refine store_ok (X := X.inH ea) I7 hN hi (.inl hk) (show RelV (.ref ea) (.ref ea) from rfl) (fun s8 I8 => ?_) (.inr hk)
  refine wpAny_mono (hb ea pins _ _ _ (D.drop i) I8 (rd ea hn)) (fun f s9 z => ?_) fun _ _ z => False.elim z
  cases f with
  | next =>
    obtain ⟨σ',H2,I9,q9⟩ := z
    exact goes_ok (I9.outH I.ok) hN hi hk fun s10 I10 => ⟨_,_,I10,q9⟩
  | brk =>
    obtain ⟨σ',H2,I9,q9⟩ := z
    exact goes_ok (I9.outH I.ok) hN hi hk fun s10 I10 => ⟨_,_,I10,q9⟩
  | cont =>
    obtain ⟨σ',H2,I9,q9⟩ := z
    exact goes_ok (I9.outH I.ok) hN hi hk fun s10 I10 => ⟨_,_,I10,q9⟩
  | ret u =>
    obtain ⟨v,σ',H2,I9,r,q9⟩ := z
    exact goes_ok (I9.outH I.ok) hN hi hk fun s10 I10 => ⟨v,_,_,I10,r,q9⟩
theorem ps_try_as {n en : Str} {B C : Addr} {np hpos pos : Pos} {body : List Stmt} {b₀ : Stmt} {suite : List Stmt} {tx : TX} {th : TS} {i : Nat} (stk : X.stack = X.env :: X.outer) (hfr : X.env.frame = some X.env.locals) (hb : PXs X body tx) (O : ExcC X.K X.mg n B) (hg : Gl X n)
    (hm : PySem.W.exmOne X.K (.ref C) (.ref B) = some true) (hex : X.ex = []) (hN : X.N.Nodup) (hi : X.N[i]? = some en) (hk : X.env.kindOf en = some .local)
    (hh : ∀ e : Addr,PSs (X.inH e) (b₀ :: suite) th) (hdb : (n == ("__debug__" : Str)) = false := by decide) :
    PS X (.Try body [.ExceptHandler (some (.Name n np)) (some en) (b₀ :: suite) hpos] [] [] pos) (fun D σ H => tx (fun c σ' H' => c = .ref C ∧ ∀ e : Addr,H' e = none → th (D.drop i) (σ'.set i (some (.ref e))) (upd H' e (excO C e))) D σ H) := by
  intro pins s σ H D I h
  refine wpAny_Try_except (wpAny_mono (hb pins s σ H D _ I h) (fun f s1 q => ?_) fun ev s1 q => ?_)
  · cases f with
    | next => exact wpAny_execs_nil q
    | ret v => exact q
    | brk => exact q
    | cont => exact q
  · obtain ⟨s₁,σ₁,H₁,E1,I1,hx,hE⟩ := q
    exact caught_as I1 stk hfr O hg hm hex hN hi hk hx (fun c o H' z => hE c o H' z) hh hdb
end
end L2
namespace Sp8
open PySem PySem.Spec L2 Mth Sp1 Sp2 Sp3
end Sp8
namespace L2
open PySem PySem.Spec PyProof.Rows
theorem px_if {X : Cx} {c : Expr} {a b : List Stmt} {tc : TT} {ta tb : TX} {pos : Pos} (hc : PT X.nox c tc) (ha : PXs X a ta) (hb : PXs X b tb) : PX X (.If c a b pos) (fun R D σ H => tc σ H fun d H1 => if d = true then ta R D σ H1 else tb R D σ H1) := by
  intro pins s σ H D R I h
  refine wpAny_If (wpAny_mono (hc pins s σ H _ (I.wish _) h) (fun d s1 ⟨H1,I1,q1⟩ => ?_) fun _ _ z => False.elim z)
  cases d with
  | true => exact ha pins s1 σ H1 D R I1.unwish q1
  | false => exact hb pins s1 σ H1 D R I1.unwish q1
theorem bt_ValueError : bootBuiltins "ValueError" = some (.type "ValueError") := by decide +kernel
end L2
namespace Sp24
open PySem PySem.Spec L2 Mth Sp1 Sp2 Sp3 Sp8
end Sp24
namespace L2
open PySem PySem.Spec PyProof.Rows
theorem bl_at {bs : List Bool} {us : List Value} {i : Nat} {v : Value} (r : Vals (bs.map V.bl) us) (h : us[i]? = some v) : ∃ b,bs[i]? = some b ∧ v = .bool b := by
  have hl := r.length
  rw [List.length_map] at hl
  have hi : i < us.length := (List.getElem?_eq_some_iff.mp h).1
  have hj : i < bs.length := by omega
  obtain ⟨u,e,q⟩ := r.get (i := i) (x := .bl bs[i]) (by rw [List.getElem?_map,List.getElem?_eq_getElem hj]; rfl)
  rw [h] at e
  cases e
  exact ⟨bs[i],List.getElem?_eq_getElem hj,q⟩
end L2
namespace Sp7
open PySem PySem.Spec L2 Mth Sp1 Sp2 Sp3
end Sp7
namespace L2
open PySem PySem.Spec PyProof.Rows
end L2
namespace L2
open PySem PySem.Spec PyProof.Rows
def SameT (H H' : Hp) : Prop := ∀ b xs,H b = some (.tup xs) → H' b = some (.tup xs)
theorem Same.t {H H' : Hp} (s : Same H H') : SameT H H' := fun b xs e => s b _ e
theorem SameT.trans {H H1 H2 : Hp} (a : SameT H H1) (b : SameT H1 H2) : SameT H H2 := fun c xs e => b c xs (a c xs e)
theorem SameT.upd {H : Hp} {l : Addr} {xs ys : List V} (hl : H l = some (.lst xs)) : SameT H (upd H l (.lst ys)) := fun b zs e => by
  rw [upd_ne (ne_of e hl (by intro z; cases z))]
  exact e
theorem Same.upd {H0 H : Hp} {l : Addr} {o : HO} (s : Same H0 H) (hl : H0 l = none) : Same H0 (upd H l o) := fun b u e => by
  rw [upd_ne (ne_of_none e hl)]
  exact s b u e
def CompAt (J : It) (fv : List (Str × Nat)) (te : TE) (σ : St) (H1 : Hp) (Q : VK) : Prop := ∀ p,H1 p = none → ∃ W : Nat → Nat → List V → Hp → Prop,(∃ m,W 0 m [] (upd H1 p (.lst []))) ∧ ∀ i m acc H2,W i m acc H2 →
  H2 p = some (.lst acc) ∧ acc.length < sizeLine ∧ ((J.stop i H2 ∧ Q (.ref p) H2) ∨ (J.go i H2 ∧ ∀ x H3,J.yld i H2 x H3 → te (some x :: fvs fv σ) H3 fun y H4 => H4 p = some (.lst acc) ∧ ∃ m',m' < m ∧ W (i + 1) m' (acc ++ [y]) (upd H4 p (.lst (acc ++ [y])))))
def tCompA (wi : TI) (fv : List (Str × Nat)) (te : TE) : TE := fun σ H Q => wi σ H fun J H1 => CompAt J fv te σ H1 Q
section
variable {X : Cx} {scope : Scope} {cl : List (Str × Addr)} {x : Str} {fv : List (Str × Nat)} {elt iter : Expr} {px pos : Pos} {te : TE}
theorem pe_compA {wi : TI} (hcalm : X.calm = true) (C : CompN X scope cl x fv) (hi : PI X (.Name x px) iter wi) (he : ∀ (fp : List Addr) (s₀ : Shared) (H₀ : Hp),PE (X.blk (x :: fv.map (·.1)) scope cl fp s₀ H₀) elt te)
    (hs : ∀ v,foldedSetIterable iter X.env v = pure v := by intro _; rfl) : PE X (.ListComp elt [⟨.Name x px,iter,[],0⟩] scope pos) (tCompA wi fv te) := pe_comp hcalm C hi he hs
end
theorem comp_rR {n : Nat} {lo : Int} {fv : List (Str × Nat)} {te : TE} {σ : St} {H1 : Hp} {Q : VK} (hlen : n < 1000) (R : Nat → V → Hp → Prop) (hR : ∀ i v H H',SameT H H' → R i v H → R i v H')
    (hs : ∀ i H2 (Kc : VK),i < n → Same H1 H2 → (∀ y H4,Same H2 H4 → R i y H4 → Kc y H4) → te (some (.int (lo + i)) :: fvs fv σ) H2 Kc)
    (hd : ∀ l ys H',H1 l = none → Same H1 H' → H' l = some (.lst ys) → ys.length = n → (∀ i y,ys[i]? = some y → R i y H') → Q (.ref l) H') :
    CompAt (Itr lo n) fv te σ H1 Q := by
  intro l hl
  refine comp_range (n := n) (lo := lo) (l := l) (fv := fv) (Qp := fun H2 => Q (.ref l) H2) (fun i acc H2 => acc.length = i ∧ Same H1 H2 ∧ H2 l = some (.lst acc) ∧ ∀ j y,acc[j]? = some y → R j y H2)
    ⟨rfl,Same.new hl,upd_same,fun j y h => by simp at h⟩ ?_ ?_ ?_
  · rintro i acc H2 hi ⟨e1,sm,e3,_⟩
    exact ⟨e3,small1000 (by omega)⟩
  · rintro i acc H2 Kc hx ⟨e1,sm,e3,hr⟩ kk
    refine hs i H2 Kc hx sm fun y H4 s4 ry => kk y H4 (s4 _ _ e3) ⟨by simp [e1],(sm.trans s4).upd hl,upd_same,fun j z hz => ?_⟩
    have t4 := SameT.upd (ys := acc ++ [y]) (s4 _ _ e3)
    rcases Nat.lt_trichotomy j acc.length with h | h | h
    · rw [List.getElem?_append_left h] at hz
      exact hR _ _ _ _ (s4.t.trans t4) (hr j z hz)
    · subst h
      rw [List.getElem?_append_right (Nat.le_refl _),Nat.sub_self] at hz
      cases hz
      rw [e1]
      exact hR _ _ _ _ t4 ry
    · rw [List.getElem?_eq_none (by simp; omega)] at hz
      cases hz
  · rintro acc H2 ⟨e1,sm,e3,hr⟩
    exact hd l acc H2 hl sm e3 e1 hr
end L2
namespace L2
open PySem PySem.Spec PyProof.Rows
section
variable {X : Cx} {pos : Pos} {es : List Expr} {ta : TA}
def tTupA (t : TA) : TE := fun σ H Q => t σ H fun xs H1 => xs.length ≤ sizeLine ∧ ∀ p H2,Same H1 H2 → H2 p = some (.tup xs) → H1 p = none → Q (.ref p) H2
def tLstA (t : TA) : TE := fun σ H Q => t σ H fun xs H1 => xs.length ≤ sizeLine ∧ ∀ p H2,Same H1 H2 → H2 p = some (.lst xs) → H1 p = none → Q (.ref p) H2
theorem pe_tupA {x1} (h : PA X es ta) : PE X (.Tuple es x1 pos) (tTupA ta) := by
  intro pins s σ H Q I hq
  refine wpAny_Tuple_spliced (thn (h pos pins s σ H _ I hq) fun us s1 ⟨xs,H1,I1,r,z,q⟩ => ⟨by rw [← r.length]; exact z,?_⟩)
  have hf : H1 s1.heap.objs.size = none := I1.hok.fresh (Nat.le_refl _)
  refine ⟨.ref s1.heap.objs.size,upd H1 s1.heap.objs.size (.tup xs),I1.laid (t' := s1.toks) (fun b u e => Heap.get?_push_of_some _ e) (Nat.le_refl _) ?_,rfl,q _ _ (Same.new hf) upd_same hf⟩
  exact ⟨z,us,r,⟨_,Heap.get?_push_size _ rfl,rfl,_,rfl⟩⟩
theorem pe_lstA (h : PA X es ta) : PE X (.List es pos) (tLstA ta) := by
  intro pins s σ H Q I hq
  refine wpAny_List_spliced (thn (h pos pins s σ H _ I hq) fun us s1 ⟨xs,H1,I1,r,z,q⟩ => ⟨by rw [← r.length]; exact z,?_⟩)
  have hf : H1 s1.heap.objs.size = none := I1.hok.fresh (Nat.le_refl _)
  refine ⟨.ref s1.heap.objs.size,upd H1 s1.heap.objs.size (.lst xs),I1.laid (t' := s1.toks) (fun b u e => Heap.get?_push_of_some _ e) (Nat.le_refl _) ?_,rfl,q _ _ (Same.new hf) upd_same hf⟩
  exact ⟨z,us,0,r,Heap.get?_push_size _ rfl⟩
def rSlLA (K : PySem.W.Frag) : V → Option Int → Option Int → Hp → VK → Prop := fun x lo hi H Q => ∃ a xs,x = .ref a ∧ SqL K H a xs ∧ ∀ p H2,Same H H2 → H2 p = some (.lst (cutV xs lo hi)) → H p = none → Q (.ref p) H2
theorem sl_listA : SlR X (rSlLA X.K) := fun pins s σ H x v vl vu lo hi sl Q I rx hs pl pu ⟨a,xs,e,hx,q⟩ =>
  sl_list pins s σ H x v vl vu lo hi sl Q I rx hs pl pu ⟨a,xs,e,hx,fun p hp => q p _ (Same.new hp) upd_same hp⟩
def rCatA : R2 := fun x y H Q => ∃ l b xs zs,x = .ref l ∧ y = .ref b ∧ H l = some (.lst xs) ∧ H b = some (.lst zs) ∧ xs.length + zs.length ≤ sizeLine ∧ ∀ p H2,Same H H2 → H2 p = some (.lst (xs ++ zs)) → H p = none → Q (.ref p) H2
theorem op_catA : OpR X (binaryOp .Add) rCatA := fun pins s σ H x y v u Q I rx ry ⟨l,b,xs,zs,e1,e2,h1,h2,hz,q⟩ =>
  op_cat pins s σ H x y v u Q I rx ry ⟨l,b,xs,zs,e1,e2,h1,h2,hz,fun p hp => q p _ (Same.new hp) upd_same hp⟩
end
end L2
namespace L2
open PySem PySem.Spec PyProof.Rows
theorem menu {K : PySem.W.Frag} {H : Hp} {l : Addr} {xs : List V} {i : Int} {Q : VK} (e : H l = some (.lst xs)) (h0 : 0 ≤ i) (h1 : i < (xs.length : Int)) (h : ∀ v ∈ xs,Q v H) : rIxL K (.ref l) (.int i) H Q := by
  obtain ⟨v,hv,mv⟩ := Sp1.atI_mem h0 h1
  exact ⟨l,xs,i,v,rfl,rfl,SqL.of e,hv,h v mv⟩
theorem menu_mod {K : PySem.W.Frag} {H : Hp} {l : Addr} {xs : List V} {n m : Int} {Q : VK} (e : H l = some (.lst xs)) (h0 : 0 < m) (h1 : m ≤ (xs.length : Int)) (h : ∀ v ∈ xs,Q v H) : rIxL K (.ref l) (.int (n % m)) H Q :=
  menu e (Int.emod_nonneg _ (by omega)) (by have := Int.emod_lt_of_pos n h0; omega) h
theorem cells_int {ss : List Int} {lo hi : Option Int} {n : Int} {o : V} {i : Nat} (h : (cutV (ss.map V.int) lo hi ++ [V.int n])[i]? = some o) : ∃ c,o = V.int c := by
  have hm := List.mem_of_getElem? h
  rcases List.mem_append.mp hm with hm | hm
  · obtain ⟨c,_,e⟩ := List.mem_map.mp (mem_cutV hm)
    exact ⟨c,e.symm⟩
  · exact ⟨_,List.mem_singleton.mp hm⟩
theorem cells_len {ss : List Int} {lo hi : Option Int} {n : Int} (h : ss.length ≤ 63) : (cutV (ss.map V.int) lo hi).length + [V.int n].length ≤ sizeLine := by
  have lcut := cutV_length (ss.map V.int) lo hi
  rw [List.length_map] at lcut
  exact Sp1.sz (by show _ + 1 ≤ 1000; omega)
theorem len3 {α : Type} {xs : List α} (h : xs.length = 3) : ∃ a b c,xs = [a,b,c] := match xs,h with | [a,b,c],_ => ⟨a,b,c,rfl⟩
theorem len2 {α : Type} {xs : List α} (h : xs.length = 2) : ∃ a b,xs = [a,b] := match xs,h with | [a,b],_ => ⟨a,b,rfl⟩
theorem len4 {α : Type} {xs : List α} (h : xs.length = 4) : ∃ a b c d,xs = [a,b,c,d] := match xs,h with | [a,b,c,d],_ => ⟨a,b,c,d,rfl⟩
theorem len5 {α : Type} {xs : List α} (h : xs.length = 5) : ∃ a b c d e,xs = [a,b,c,d,e] := match xs,h with | [a,b,c,d,e],_ => ⟨a,b,c,d,e,rfl⟩
theorem len6 {α : Type} {xs : List α} (h : xs.length = 6) : ∃ a b c d e f,xs = [a,b,c,d,e,f] := match xs,h with | [a,b,c,d,e,f],_ => ⟨a,b,c,d,e,f,rfl⟩
end L2
namespace L2
open PySem PySem.Spec PyProof.Rows
section
variable {X : Cx} {pins : List (Addr × Obj)} {σ : St} {H : Hp} {s : Shared}
end
section
variable {X : Cx} {elts : List Expr} {kt : Nat} {tpos : Pos}
end
end L2
namespace L2
open PySem PySem.Spec PyProof.Rows
inductive D where
  | non | bl (b : Bool) | int (i : Int) | str (x : Str) | tup (ds : List D) | lst (ds : List D)
inductive Rp (H : Hp) : Nat → V → D → Prop where
  | non {n : Nat} : Rp H n .non .non
  | bl {n : Nat} {b : Bool} : Rp H n (.bl b) (.bl b)
  | int {n : Nat} {i : Int} : Rp H n (.int i) (.int i)
  | str {n : Nat} {x : Str} : Rp H n (.str x) (.str x)
  | tup {n : Nat} {p : Addr} {xs : List V} {ds : List D} (e : H p = some (.tup xs)) (hl : xs.length = ds.length) (h : ∀ (j : Nat) x d,xs[j]? = some x → ds[j]? = some d → Rp H n x d) : Rp H (n + 1) (.ref p) (.tup ds)
  | lst {n : Nat} {p : Addr} {xs : List V} {ds : List D} (e : H p = some (.lst xs)) (hl : xs.length = ds.length) (h : ∀ (j : Nat) x d,xs[j]? = some x → ds[j]? = some d → Rp H n x d) : Rp H (n + 1) (.ref p) (.lst ds)
mutual
def deq : D → D → Bool
  | .non,.non => true
  | .bl a,.bl b => a == b
  | .bl a,.int b => (if a then 1 else 0) == b
  | .int a,.bl b => a == (if b then 1 else 0)
  | .int a,.int b => a == b
  | .str a,.str b => a == b
  | .tup xs,.tup ys => deqs xs ys
  | .lst xs,.lst ys => deqs xs ys
  | _,_ => false
def deqs : List D → List D → Bool
  | [],[] => true
  | x :: xs,y :: ys => deq x y && deqs xs ys
  | _,_ => false
end
theorem deqs_all : ∀ (ds es : List D),((List.range (min ds.length es.length)).all (fun j => deq (ds.getD j .non) (es.getD j .non)) && ds.length == es.length) = deqs ds es
  | [],[] => by simp [deqs]
  | [],e :: es => by simp [deqs]
  | d :: ds,[] => by simp [deqs]
  | d :: ds,e :: es => by
    have ih := deqs_all ds es
    have hm : min (d :: ds).length (e :: es).length = min ds.length es.length + 1 := by simp only [List.length_cons]; omega
    rw [hm,List.range_succ_eq_map,List.all_cons,List.all_map]
    simp only [deqs,List.getD_cons_zero,List.length_cons]
    rw [← ih,Bool.and_assoc]
    congr 1
    simp [Function.comp_def]
theorem deqs_len {ds es : List D} (h : ds.length ≠ es.length) : deqs ds es = false := by
  rw [← deqs_all]
  simp [h]
theorem deqs_all' {ds es : List D} (h : ds.length = es.length) : (List.range ds.length).all (fun j => deq (ds.getD j .non) (es.getD j .non)) = deqs ds es := by
  rw [← deqs_all,h]
  simp
theorem deqs_of {ds es : List D} (hl : ds.length = es.length) (h : ∀ (j : Nat) d e,ds[j]? = some d → es[j]? = some e → deq d e = true) : deqs ds es = true := by
  rw [← deqs_all' hl,List.all_eq_true]
  intro j hj
  have hj' : j < ds.length := List.mem_range.mp hj
  have hj2 : j < es.length := by omega
  have e1 : ds[j]? = some ds[j] := List.getElem?_eq_getElem hj'
  have e2 : es[j]? = some es[j] := List.getElem?_eq_getElem hj2
  rw [List.getD_eq_getElem?_getD,List.getD_eq_getElem?_getD,e1,e2]
  exact h j _ _ e1 e2
theorem get_of_len {α β : Type} {xs : List α} {ds : List β} {j : Nat} {d : β} (hl : xs.length = ds.length) (h : ds[j]? = some d) : ∃ x,xs[j]? = some x := by
  have := (List.getElem?_eq_some_iff.mp h).1
  exact ⟨xs[j],List.getElem?_eq_getElem (by omega)⟩
theorem Rp.self {H : Hp} {n m : Nat} {v : V} {d e : D} (r : Rp H n v d) (q : Rp H m v e) : deq d e = true := by
  induction r generalizing m e with
  | non => cases q; rfl
  | bl => cases q; simp [deq]
  | int => cases q; simp [deq]
  | str => cases q; simp [deq]
  | tup e1 hl h ih =>
    cases q with
    | tup e2 hl2 h2 =>
      rw [e1] at e2
      cases e2
      refine deqs_of (by omega) fun j a b ea eb => ?_
      obtain ⟨x,hx⟩ := get_of_len hl ea
      exact ih j x a hx ea (h2 j x b hx eb)
    | lst e2 hl2 h2 => rw [e1] at e2; cases e2
  | lst e1 hl h ih =>
    cases q with
    | tup e2 hl2 h2 => rw [e1] at e2; cases e2
    | lst e2 hl2 h2 =>
      rw [e1] at e2
      cases e2
      refine deqs_of (by omega) fun j a b ea eb => ?_
      obtain ⟨x,hx⟩ := get_of_len hl ea
      exact ih j x a hx ea (h2 j x b hx eb)
section
variable {X : Cx} {pins : List (Addr × Obj)} {σ : St} {H : Hp} {s : Shared}
theorem elts_at {A : Around} {xs ys : List V} {us ws : List Value} {ds es : List D} (r : Vals xs us) (r' : Vals ys ws) (hl : xs.length = ds.length) (hl' : ys.length = es.length)
    (h : ∀ (j : Nat) x y d e u w,xs[j]? = some x → ys[j]? = some y → ds[j]? = some d → es[j]? = some e → RelV x u → RelV y w → SeqAt.EqAt A s u w (deq d e))
    (j : Nat) (h1 : j < us.toArray.size) (h2 : j < ws.toArray.size) : SeqAt.EqAt A s us.toArray[j] ws.toArray[j] (deq (ds.getD j .non) (es.getD j .non)) := by
  rw [List.size_toArray] at h1 h2
  obtain ⟨a,ea,ra⟩ := val_get r h1
  obtain ⟨c,ec,rc⟩ := val_get r' h2
  have g1 := (List.getElem?_eq_some_iff.mp ea).1
  have g2 := (List.getElem?_eq_some_iff.mp ec).1
  have e1 : ds[j]? = some ds[j] := List.getElem?_eq_getElem (by omega)
  have e2 : es[j]? = some es[j] := List.getElem?_eq_getElem (by omega)
  rw [List.getD_eq_getElem?_getD,List.getD_eq_getElem?_getD,e1,e2]
  exact h j a c _ _ _ _ ea ec e1 e2 ra rc
theorem Rp.eqAt {n : Nat} {x : V} {d : D} (r : Rp H n x d) : ∀ {m : Nat} {y : V} {e : D} {A : Around} {u v : Value},Rp H m y e → Inv X pins σ H s → RelV x u → RelV y v → A.units + n < cLine → SeqAt.EqAt A s u v (deq d e) := by
  induction r with
  | non =>
    intro m y e A u v q I ru rv hu
    cases ru
    cases q with
    | non => cases rv; exact SeqAt.EqAt.same _
    | bl => cases rv; exact SeqAt.EqAt.none_bool _
    | int => obtain ⟨_,rfl⟩ := rv; exact SeqAt.EqAt.none_int _ _
    | str => obtain ⟨_,rfl⟩ := rv; exact SeqAt.EqAt.none_str _ _
    | tup e1 hl h => cases rv; obtain ⟨its,_,pl,_⟩ := I.tuple (SqT.of e1); exact SeqAt.EqAt.none_tuple pl (by omega)
    | lst e1 hl h => cases rv; obtain ⟨its,_,pl,_⟩ := I.list (SqL.of e1); exact SeqAt.EqAt.none_list pl.isList (by omega)
  | bl =>
    intro m y e A u v q I ru rv hu
    cases ru
    cases q with
    | non => cases rv; exact SeqAt.EqAt.bool_none _
    | bl => cases rv; exact SeqAt.EqAt.bool_bool _ _
    | int => obtain ⟨_,rfl⟩ := rv; exact SeqAt.EqAt.bool_int _ _ _
    | str => obtain ⟨_,rfl⟩ := rv; exact SeqAt.EqAt.bool_str _ _ _
    | tup e1 hl h => cases rv; obtain ⟨its,_,pl,_⟩ := I.tuple (SqT.of e1); exact SeqAt.EqAt.bool_tuple _ pl (by omega)
    | lst e1 hl h => cases rv; obtain ⟨its,_,pl,_⟩ := I.list (SqL.of e1); exact SeqAt.EqAt.bool_list _ pl.isList (by omega)
  | int =>
    intro m y e A u v q I ru rv hu
    obtain ⟨_,rfl⟩ := ru
    cases q with
    | non => cases rv; exact SeqAt.EqAt.int_none _ _
    | bl => cases rv; exact SeqAt.EqAt.int_bool _ _ _
    | int => obtain ⟨_,rfl⟩ := rv; exact SeqAt.EqAt.int_int _ _ _ _
    | str => obtain ⟨_,rfl⟩ := rv; exact SeqAt.EqAt.int_str _ _ _ _
    | tup e1 hl h => cases rv; obtain ⟨its,_,pl,_⟩ := I.tuple (SqT.of e1); exact SeqAt.EqAt.int_tuple _ _ pl (by omega)
    | lst e1 hl h => cases rv; obtain ⟨its,_,pl,_⟩ := I.list (SqL.of e1); exact SeqAt.EqAt.int_list _ _ pl.isList (by omega)
  | str =>
    intro m y e A u v q I ru rv hu
    obtain ⟨_,rfl⟩ := ru
    cases q with
    | non => cases rv; exact SeqAt.EqAt.str_none _ _
    | bl => cases rv; exact SeqAt.EqAt.str_bool _ _ _
    | int => obtain ⟨_,rfl⟩ := rv; exact SeqAt.EqAt.str_int _ _ _ _
    | str => obtain ⟨_,rfl⟩ := rv; exact SeqAt.EqAt.str_str _ _ _ _
    | tup e1 hl h => cases rv; obtain ⟨its,_,pl,_⟩ := I.tuple (SqT.of e1); exact SeqAt.EqAt.str_tuple _ _ pl (by omega)
    | lst e1 hl h => cases rv; obtain ⟨its,_,pl,_⟩ := I.list (SqL.of e1); exact SeqAt.EqAt.str_list _ _ pl.isList (by omega)
  | @tup n p xs ds e0 hl h ih =>
    intro m y e A u v q I ru rv hu
    cases ru
    obtain ⟨its,r1,pl,_⟩ := I.tuple (SqT.of e0)
    cases q with
    | non => cases rv; exact SeqAt.EqAt.tuple_none pl (by omega)
    | bl => cases rv; exact SeqAt.EqAt.tuple_bool _ pl (by omega)
    | int => obtain ⟨_,rfl⟩ := rv; exact SeqAt.EqAt.tuple_int _ _ pl (by omega)
    | str => obtain ⟨_,rfl⟩ := rv; exact SeqAt.EqAt.tuple_str _ _ pl (by omega)
    | lst e1 hl1 h1 => cases rv; obtain ⟨jts,_,pl',_⟩ := I.list (SqL.of e1); exact SeqAt.EqAt.tuple_list pl pl'.isList (by omega)
    | @tup m p' ys es e1 hl1 h1 =>
      cases rv
      by_cases hne : p = p'
      · subst hne
        have z : deq (.tup ds) (.tup es) = true := Rp.self (Rp.tup e0 hl h) (Rp.tup e1 hl1 h1)
        rw [z]
        exact SeqAt.EqAt.same _
      · obtain ⟨jts,r2,pl',_⟩ := I.tuple (SqT.of e1)
        have y := SeqAt.RcAt.tuples (A := A) (e := fun j => deq (ds.getD j .non) (es.getD j .non)) pl pl' (by omega) (elts_at r1 r2 hl hl1 fun j x y d e u w a b c k ra rb => ih j x d a c (h1 j y e b k) I ra rb (by show A.units + 1 + n < cLine; omega))
        rw [List.size_toArray,List.size_toArray,← r1.length,← r2.length,hl,hl1,deqs_all] at y
        exact SeqAt.EqAt.of_refs hne y
  | @lst n p xs ds e0 hl h ih =>
    intro m y e A u v q I ru rv hu
    cases ru
    obtain ⟨its,r1,pl,_⟩ := I.list (SqL.of e0)
    cases q with
    | non => cases rv; exact SeqAt.EqAt.list_none pl.isList (by omega)
    | bl => cases rv; exact SeqAt.EqAt.list_bool _ pl.isList (by omega)
    | int => obtain ⟨_,rfl⟩ := rv; exact SeqAt.EqAt.list_int _ _ pl.isList (by omega)
    | str => obtain ⟨_,rfl⟩ := rv; exact SeqAt.EqAt.list_str _ _ pl.isList (by omega)
    | tup e1 hl1 h1 => cases rv; obtain ⟨jts,_,pl',_⟩ := I.tuple (SqT.of e1); exact SeqAt.EqAt.list_tuple pl.isList pl' (by omega)
    | @lst m p' ys es e1 hl1 h1 =>
      cases rv
      by_cases hne : p = p'
      · subst hne
        have z : deq (.lst ds) (.lst es) = true := Rp.self (Rp.lst e0 hl h) (Rp.lst e1 hl1 h1)
        rw [z]
        exact SeqAt.EqAt.same _
      · obtain ⟨jts,r2,pl',_⟩ := I.list (SqL.of e1)
        have g1 := r1.length
        have g2 := r2.length
        by_cases hz : ds.length = es.length
        · have y := SeqAt.RcAt.lists (A := A) (e := fun j => deq (ds.getD j .non) (es.getD j .non)) pl.isList pl'.isList (by rw [List.size_toArray,List.size_toArray]; omega) (by omega) (elts_at r1 r2 hl hl1 fun j x y d e u w a b c k ra rb => ih j x d a c (h1 j y e b k) I ra rb (by show A.units + 1 + n < cLine; omega))
          rw [List.size_toArray,← r1.length,hl,deqs_all' hz] at y
          exact SeqAt.EqAt.of_refs hne y
        · rw [show deq (.lst ds) (.lst es) = false from deqs_len hz]
          exact SeqAt.EqAt.of_refs hne (SeqAt.RcAt.lists_lengths pl.isList pl'.isList (by rw [List.size_toArray,List.size_toArray]; simp; omega) (by omega))
end
end L2
namespace L2
open PySem PySem.Spec PyProof.Rows
section
variable {X : Cx} {pins : List (Addr × Obj)} {σ : St} {H : Hp} {s : Shared}
theorem Rp.rcNeAt {A : Around} {n m : Nat} {x y : V} {d e : D} {u v : Value} (r : Rp H n x d) (q : Rp H m y e) (I : Inv X pins σ H s) (ru : RelV x u) (rv : RelV y v) (hu : A.units + n + 1 < cLine) : SeqAt.RcNeAt A s u v (!(deq d e)) := by
  cases r with
  | non =>
    cases q with
    | non =>
      cases ru
      cases rv
      exact SeqAt.RcNeAt.none_none
    | bl =>
      cases ru
      cases rv
      exact SeqAt.RcNeAt.none_bool _
    | int =>
      cases ru
      obtain ⟨_,rfl⟩ := rv
      exact SeqAt.RcNeAt.none_int _ _
    | str =>
      cases ru
      obtain ⟨_,rfl⟩ := rv
      exact SeqAt.RcNeAt.none_str _ _
    | @tup m p' ys es e1 hl1 h1 =>
      cases ru
      cases rv
      obtain ⟨jts,r2,pl',_⟩ := I.tuple (SqT.of e1)
      exact SeqAt.RcNeAt.none_tuple pl' (by omega)
    | @lst m p' ys es e1 hl1 h1 =>
      cases ru
      cases rv
      obtain ⟨jts,r2,pl',_⟩ := I.list (SqL.of e1)
      exact SeqAt.RcNeAt.none_list pl'.isList (by omega)
  | bl =>
    cases q with
    | non =>
      cases ru
      cases rv
      exact SeqAt.RcNeAt.bool_none _
    | bl =>
      cases ru
      cases rv
      exact SeqAt.RcNeAt.bool_bool _ _
    | int =>
      cases ru
      obtain ⟨_,rfl⟩ := rv
      exact SeqAt.RcNeAt.bool_int _ _ _
    | str =>
      cases ru
      obtain ⟨_,rfl⟩ := rv
      exact SeqAt.RcNeAt.bool_str _ _ _
    | @tup m p' ys es e1 hl1 h1 =>
      cases ru
      cases rv
      obtain ⟨jts,r2,pl',_⟩ := I.tuple (SqT.of e1)
      exact SeqAt.RcNeAt.bool_tuple _ pl' (by omega)
    | @lst m p' ys es e1 hl1 h1 =>
      cases ru
      cases rv
      obtain ⟨jts,r2,pl',_⟩ := I.list (SqL.of e1)
      exact SeqAt.RcNeAt.bool_list _ pl'.isList (by omega)
  | int =>
    cases q with
    | non =>
      obtain ⟨_,rfl⟩ := ru
      cases rv
      exact SeqAt.RcNeAt.int_none _ _
    | bl =>
      obtain ⟨_,rfl⟩ := ru
      cases rv
      exact SeqAt.RcNeAt.int_bool _ _ _
    | int =>
      obtain ⟨_,rfl⟩ := ru
      obtain ⟨_,rfl⟩ := rv
      exact SeqAt.RcNeAt.int_int _ _ _ _
    | str =>
      obtain ⟨_,rfl⟩ := ru
      obtain ⟨_,rfl⟩ := rv
      exact SeqAt.RcNeAt.int_str _ _ _ _
    | @tup m p' ys es e1 hl1 h1 =>
      obtain ⟨_,rfl⟩ := ru
      cases rv
      obtain ⟨jts,r2,pl',_⟩ := I.tuple (SqT.of e1)
      exact SeqAt.RcNeAt.int_tuple _ _ pl' (by omega)
    | @lst m p' ys es e1 hl1 h1 =>
      obtain ⟨_,rfl⟩ := ru
      cases rv
      obtain ⟨jts,r2,pl',_⟩ := I.list (SqL.of e1)
      exact SeqAt.RcNeAt.int_list _ _ pl'.isList (by omega)
  | str =>
    cases q with
    | non =>
      obtain ⟨_,rfl⟩ := ru
      cases rv
      exact SeqAt.RcNeAt.str_none _ _
    | bl =>
      obtain ⟨_,rfl⟩ := ru
      cases rv
      exact SeqAt.RcNeAt.str_bool _ _ _
    | int =>
      obtain ⟨_,rfl⟩ := ru
      obtain ⟨_,rfl⟩ := rv
      exact SeqAt.RcNeAt.str_int _ _ _ _
    | str =>
      obtain ⟨_,rfl⟩ := ru
      obtain ⟨_,rfl⟩ := rv
      exact SeqAt.RcNeAt.str_str _ _ _ _
    | @tup m p' ys es e1 hl1 h1 =>
      obtain ⟨_,rfl⟩ := ru
      cases rv
      obtain ⟨jts,r2,pl',_⟩ := I.tuple (SqT.of e1)
      exact SeqAt.RcNeAt.str_tuple _ _ pl' (by omega)
    | @lst m p' ys es e1 hl1 h1 =>
      obtain ⟨_,rfl⟩ := ru
      cases rv
      obtain ⟨jts,r2,pl',_⟩ := I.list (SqL.of e1)
      exact SeqAt.RcNeAt.str_list _ _ pl'.isList (by omega)
  | @tup n p xs ds e0 hl h =>
    cases q with
    | non =>
      cases ru
      cases rv
      obtain ⟨its,r1,pl,_⟩ := I.tuple (SqT.of e0)
      exact SeqAt.RcNeAt.tuple_none pl (by omega)
    | bl =>
      cases ru
      cases rv
      obtain ⟨its,r1,pl,_⟩ := I.tuple (SqT.of e0)
      exact SeqAt.RcNeAt.tuple_bool _ pl (by omega)
    | int =>
      cases ru
      obtain ⟨_,rfl⟩ := rv
      obtain ⟨its,r1,pl,_⟩ := I.tuple (SqT.of e0)
      exact SeqAt.RcNeAt.tuple_int _ _ pl (by omega)
    | str =>
      cases ru
      obtain ⟨_,rfl⟩ := rv
      obtain ⟨its,r1,pl,_⟩ := I.tuple (SqT.of e0)
      exact SeqAt.RcNeAt.tuple_str _ _ pl (by omega)
    | @tup m p' ys es e1 hl1 h1 =>
      cases ru
      cases rv
      obtain ⟨its,r1,pl,_⟩ := I.tuple (SqT.of e0)
      obtain ⟨jts,r2,pl',_⟩ := I.tuple (SqT.of e1)
      have y := SeqAt.RcNeAt.tuples (A := A) (e := fun j => deq (ds.getD j .non) (es.getD j .non)) pl pl' (by omega) (elts_at r1 r2 hl hl1 fun j x y d e u w a b c k ra rb => (h j x d a c).eqAt (h1 j y e b k) I ra rb (by show A.units + 1 + _ < cLine; omega))
      rw [List.size_toArray,List.size_toArray,← r1.length,← r2.length,hl,hl1,deqs_all] at y
      exact y
    | @lst m p' ys es e1 hl1 h1 =>
      cases ru
      cases rv
      obtain ⟨its,r1,pl,_⟩ := I.tuple (SqT.of e0)
      obtain ⟨jts,r2,pl',_⟩ := I.list (SqL.of e1)
      exact SeqAt.RcNeAt.tuple_list pl pl'.isList (by omega)
  | @lst n p xs ds e0 hl h =>
    cases q with
    | non =>
      cases ru
      cases rv
      obtain ⟨its,r1,pl,_⟩ := I.list (SqL.of e0)
      exact SeqAt.RcNeAt.list_none pl.isList (by omega)
    | bl =>
      cases ru
      cases rv
      obtain ⟨its,r1,pl,_⟩ := I.list (SqL.of e0)
      exact SeqAt.RcNeAt.list_bool _ pl.isList (by omega)
    | int =>
      cases ru
      obtain ⟨_,rfl⟩ := rv
      obtain ⟨its,r1,pl,_⟩ := I.list (SqL.of e0)
      exact SeqAt.RcNeAt.list_int _ _ pl.isList (by omega)
    | str =>
      cases ru
      obtain ⟨_,rfl⟩ := rv
      obtain ⟨its,r1,pl,_⟩ := I.list (SqL.of e0)
      exact SeqAt.RcNeAt.list_str _ _ pl.isList (by omega)
    | @tup m p' ys es e1 hl1 h1 =>
      cases ru
      cases rv
      obtain ⟨its,r1,pl,_⟩ := I.list (SqL.of e0)
      obtain ⟨jts,r2,pl',_⟩ := I.tuple (SqT.of e1)
      exact SeqAt.RcNeAt.list_tuple pl.isList pl' (by omega)
    | @lst m p' ys es e1 hl1 h1 =>
      cases ru
      cases rv
      obtain ⟨its,r1,pl,_⟩ := I.list (SqL.of e0)
      obtain ⟨jts,r2,pl',_⟩ := I.list (SqL.of e1)
      have g1 := r1.length
      have g2 := r2.length
      by_cases hz : ds.length = es.length
      · have y := SeqAt.RcNeAt.lists (A := A) (e := fun j => deq (ds.getD j .non) (es.getD j .non)) pl.isList pl'.isList (by rw [List.size_toArray,List.size_toArray]; omega) (by omega) (elts_at r1 r2 hl hl1 fun j x y d e u w a b c k ra rb => (h j x d a c).eqAt (h1 j y e b k) I ra rb (by show A.units + 1 + _ < cLine; omega))
        rw [List.size_toArray,← r1.length,hl,deqs_all' hz] at y
        exact y
      · rw [show deq (.lst ds) (.lst es) = false from deqs_len hz]
        exact SeqAt.RcNeAt.lists_lengths pl.isList pl'.isList (by rw [List.size_toArray,List.size_toArray]; simp; omega) (by omega)
end
section
variable {X : Cx}
def rEqD (neg : Bool) : R2 := fun x y H Q => ∃ d e,Rp H 9 x d ∧ Rp H 9 y e ∧ Q (.bl (if neg then !(deq d e) else deq d e)) H
theorem op_neD (hu : X.A.units + 10 < cLine) : OpR X (compareOp .NotEq) (rEqD true) := by
  intro pins s σ H x y v u Q I rx ry h
  obtain ⟨d,e,rd,re,k⟩ := h
  exact rd.rcNeAt re I rx ry (by omega) _ _ _ _ ⟨.bl _,H,I,rfl,k⟩
end
section
variable {H : Hp} {n : Nat} {p : Addr} {x y z w : V} {a b c d : D}
theorem Rp.t2 (e : H p = some (.tup [x,y])) (ha : Rp H n x a) (hb : Rp H n y b) : Rp H (n + 1) (.ref p) (.tup [a,b]) := .tup e rfl fun j x d h k => by
  match j with
  | 0 => cases h; cases k; exact ha
  | 1 => cases h; cases k; exact hb
  | j + 2 => simp at h
mutual
theorem deq_self : ∀ d : D,deq d d = true
  | .non => rfl
  | .bl b => by simp [deq]
  | .int i => by simp [deq]
  | .str x => by simp [deq]
  | .tup ds => by simp only [deq]; exact deqs_same ds
  | .lst ds => by simp only [deq]; exact deqs_same ds
theorem deqs_same : ∀ ds : List D,deqs ds ds = true
  | [] => by simp [deqs]
  | d :: ds => by simp only [deqs,Bool.and_eq_true]; exact ⟨deq_self d,deqs_same ds⟩
end
end
end L2
namespace L2
open PySem PySem.Spec PyProof.Rows
section
variable {X : Cx} {scope : Scope} {cl : List (Str × Addr)} {xs : List Str} {fv : List (Str × Nat)} {elt iter tg : Expr} {ifs : List Expr} {pos : Pos} {te : TE} {tc : TT} {g : TG}
end
end L2
namespace Dr
open PySem PySem.Spec L2 Mth Sp1 Sp2 Sp3 Sp7
end Dr
namespace Dr
open PySem PySem.Spec L2 Mth Sp1 Sp2 Sp3 Sp7
end Dr
namespace Dr
open PySem
end Dr
namespace L2
open PySem PySem.Spec PyProof.Rows
section
variable {κ : Type} [DecidableEq κ]
def putK (kvs : List (κ × V)) (k : κ) (v : V) : List (κ × V) :=
  if (kvs.any fun kv => decide (kv.1 = k)) = true then kvs.map (fun kv => if kv.1 = k then (kv.1,v) else kv) else kvs ++ [(k,v)]
theorem length_putK (kvs : List (κ × V)) (k : κ) (v : V) : (putK kvs k v).length ≤ kvs.length + 1 := by
  unfold putK
  split
  · rw [List.length_map]; omega
  · rw [List.length_append,List.length_cons,List.length_nil]; omega
theorem KV.any {kvs : List (κ × V)} {vs : List (κ × Value)} (r : KV kvs vs) (k : κ) : (kvs.any fun kv => decide (kv.1 = k)) = vs.any fun kv => decide (kv.1 = k) := by
  unfold KV at r
  induction r with
  | nil => rfl
  | cons h t ih => rw [List.any_cons,List.any_cons,ih,h.1]
theorem KV.repl {kvs : List (κ × V)} {vs : List (κ × Value)} (r : KV kvs vs) (k : κ) {y : V} {u : Value} (ry : RelV y u) :
    KV (kvs.map fun kv => if kv.1 = k then (kv.1,y) else kv) (vs.map fun kv => if kv.1 = k then (kv.1,u) else kv) := by
  unfold KV at r ⊢
  induction r with
  | nil => exact .nil
  | @cons p q ps qs h t ih =>
    rw [List.map_cons,List.map_cons]
    refine .cons ?_ ih
    obtain ⟨h1,h2⟩ := h
    by_cases e : p.1 = k
    · rw [if_pos e,if_pos (h1.symm.trans e)]; exact ⟨h1,ry⟩
    · rw [if_neg e,if_neg (fun z => e (h1.trans z))]; exact ⟨h1,h2⟩
theorem KV.put {kvs : List (κ × V)} {vs : List (κ × Value)} (r : KV kvs vs) (k : κ) {y : V} {u : Value} (ry : RelV y u) : KV (putK kvs k y) (stored vs k u) := by
  unfold putK stored
  rw [r.any k]
  by_cases e : (vs.any fun kv => decide (kv.1 = k)) = true
  · rw [if_pos e,if_pos e]; exact r.repl k ry
  · rw [if_neg e,if_neg e]; exact Paired.snoc r ⟨rfl,ry⟩
end
theorem kV_is {P : Program} {w : World} {k : Key} {u : Value} (r : RelV (kV k) u) : (mixKind P w).is k u = true := by
  cases k with
  | inl i => obtain ⟨t,e⟩ := (show ∃ t,u = Value.int i t from r); subst e; exact mixKind_int P w i t
  | inr x => obtain ⟨t,e⟩ := (show ∃ t,u = Value.str x t from r); subst e; exact mixKind_str P w x t
section
variable {P : Program} {w : World} {H : Hp} {h : Heap} {a : Addr}
theorem rd_of {u : HO} (ok : HOk P w H h) (e : Rd H a u) : ObjOk P w H h a u := e.ok ok
theorem dk_rd {kvs : List (Key × V)} (ok : HOk P w H h) (e : Rd H a (.dK kvs)) : kvs.length ≤ sizeLine ∧ (a == sysModules) = false ∧ ∃ vs,KV kvs vs ∧ h.DictOf (mixKind P w) a vs :=
  show ObjOk P w H h a (.dK kvs) from rd_of ok e
theorem dk_of {kvs : List (Key × V)} (ok : HOk P w H h) (e : H a = some (.dK kvs)) : kvs.length ≤ sizeLine ∧ (a == sysModules) = false ∧ ∃ vs,KV kvs vs ∧ h.DictOf (mixKind P w) a vs := dk_rd ok (.inl e)
end
section
variable {X : Cx} {pins : List (Addr × Obj)} {σ : St} {H : Hp} {s : Shared} {a : Addr} {y v : V} {u r : Value} {o : Option V} {A : Around} {E : Value → Shared → Prop}
theorem Inv.big (I : Inv X pins σ H s) : sysModules < s.heap.objs.size := by
  have h : mainGlobals < s.heap.objs.size := (I.mod.glob.keeps I.bk).lt
  exact Nat.lt_trans (by decide) h
theorem d_write {h' : Heap} {t' : Nat} {ob : HO} (I : Inv X pins σ H s) (mu : Mut (H a)) (hs : Heap.SameBut a s.heap h') (he : ∃ q,h'.get? a = some q) (new : ObjOk X.prog X.w (upd H a ob) h' a ob) :
    Inv X pins σ (upd H a ob) { s with heap := h',toks := t' } :=
  I.write (x := a) (e := a) mu (.inl rfl) (fun b q hb z => (hs.2 b hb).trans z) he new
theorem dk_new {P : Program} {w : World} {H' : Hp} {h' : Heap} {kvs : List (Key × V)} {vs : List (Key × Value)} (z : kvs.length ≤ sizeLine) (hd : (a == sysModules) = false) (rel : KV kvs vs) (dd : h'.DictOf (mixKind P w) a vs) :
    ObjOk P w H' h' a (.dK kvs) := ⟨z,hd,vs,rel,dd⟩
end
section
variable {X : Cx} {pins : List (Addr × Obj)} {σ : St} {H : Hp} {s : Shared} {a : Addr} {kvs : List (Key × V)} {k : Key} {u : Value} {A : Around} {E : Value → Shared → Prop}
end
section
variable {X : Cx} {o i e value : Expr} {pos pos' tpos : Pos} {td ty tv : TE}
end
theorem dk_empty {P : Program} {w : World} {H : Hp} (h : Heap) (hb : sysModules < h.objs.size) : ObjOk P w H (h.push { cls := .type "dict",data := .dict #[] }) h.objs.size (.dK []) :=
  ⟨Nat.zero_le _,beq_eq_false_iff_ne.mpr (Ne.symm (Nat.ne_of_lt hb)),[],.nil,Heap.DictOf.new h⟩
def tDNewK : TE := fun _ H Q => ∀ p,H p = none → Q (.ref p) (upd H p (.dK []))
section
variable {X : Cx} {pos : Pos}
theorem pe_dnewK : PE X (.Dict [] [] pos) tDNewK := fun pins s σ H Q I h =>
  wpAny_Dict_empty ⟨.ref s.heap.objs.size,_,I.laid (a := s.heap.objs.size) (o := .dK []) (t' := s.toks) (fun _ _ q => Heap.get?_push_of_some _ q) (Nat.le_refl _) (dk_empty s.heap I.big),rfl,h _ (I.hok.fresh (Nat.le_refl _))⟩
end
def tPairs : List (TE × TE) → St → Hp → (List (V × V) → Hp → Prop) → Prop
  | [],_,H,Q => Q [] H
  | (tk,tv) :: r,σ,H,Q => tk σ H fun x H1 => tv σ H1 fun y H2 => tPairs r σ H2 fun ps H3 => Q ((x,y) :: ps) H3
abbrev VV : List (V × V) → List (Value × Value) → Prop := Paired fun p q => RelV p.1 q.1 ∧ RelV p.2 q.2
def PPs (X : Cx) (pos : Pos) (keys : List (Option Expr)) (values : List Expr) (trs : List (TE × TE)) : Prop :=
  ∀ (pins : List (Addr × Obj)) (s : Shared) (σ : St) (H : Hp) (Q : List (V × V) → Hp → Prop),Inv X pins σ H s → tPairs trs σ H Q →
    wpAny (model X.prog X.w) X.A (evalPairs (pairTrees keys values X.env pos)) (fun vs s' => ∃ ps H',Inv X pins σ H' s' ∧ VV ps vs ∧ Q ps H') X.xe s
theorem pps_nil {X : Cx} {pos : Pos} : PPs X pos [] [] [] := fun pins s σ H Q I h => pairTrees_nil_walk ⟨[],H,I,.nil,h⟩
theorem pps_cons {X : Cx} {pos : Pos} {k v : Expr} {ks : List (Option Expr)} {vs : List Expr} {tk tv : TE} {trs : List (TE × TE)} (hk : PE X k tk) (hv : PE X v tv) (hr : PPs X pos ks vs trs) :
    PPs X pos (some k :: ks) (v :: vs) ((tk,tv) :: trs) := fun pins s σ H Q I h =>
  pairTrees_cons_walk (thn (hk pins s σ H _ I h) fun u s1 ⟨x,H1,I1,rx,q1⟩ => thn (hv pins s1 σ H1 _ I1 q1) fun w2 s2 ⟨y,H2,I2,ry,q2⟩ =>
    thn (hr pins s2 σ H2 _ I2 q2) fun ws s3 ⟨ps,H3,I3,rel,q3⟩ => ⟨(x,y) :: ps,H3,I3,.cons ⟨rx,ry⟩ rel,q3⟩)
def mergeK (kvs more : List (Key × V)) : List (Key × V) := more.foldl (fun acc kv => putK acc kv.1 kv.2) kvs
theorem KV.merge : ∀ {more : List (Key × V)} {rs : List (Key × Value)} {kvs : List (Key × V)} {vs : List (Key × Value)},KV more rs → KV kvs vs → KV (mergeK kvs more) (merged vs rs) := by
  intro more rs kvs vs r
  unfold KV at r
  induction r generalizing kvs vs with
  | nil => intro q; exact q
  | @cons p q ps qs h t ih =>
    intro r0
    have e : KV (putK kvs p.1 p.2) (stored vs q.1 q.2) := by
      have := r0.put p.1 h.2
      rw [← h.1]; exact this
    exact ih e
theorem length_mergeK : ∀ (more kvs : List (Key × V)),(mergeK kvs more).length ≤ kvs.length + more.length
  | [],kvs => by show kvs.length ≤ kvs.length + 0; omega
  | p :: r,kvs => by
    have h1 := length_mergeK r (putK kvs p.1 p.2)
    have h2 := length_putK kvs p.1 p.2
    show (mergeK (putK kvs p.1 p.2) r).length ≤ _
    rw [List.length_cons]; omega
theorem carries_of {P : Program} {w : World} : ∀ {kvs : List (Key × V)} {ws : List (Value × Value)},VV (kvs.map fun kv => (kV kv.1,kv.2)) ws → ∃ rs,Carries (mixKind P w) ws rs ∧ KV kvs rs
  | [],_,r => by rw [List.map_nil] at r; cases r; exact ⟨[],True.intro,.nil⟩
  | p :: kvs,_,r => by
    rw [List.map_cons] at r
    cases r with
    | @cons a b as bs h t =>
      obtain ⟨rs,c,q⟩ := carries_of (P := P) (w := w) t
      obtain ⟨b1,b2⟩ := b
      exact ⟨(p.1,b2) :: rs,⟨kV_is h.1,rfl,c⟩,.cons ⟨rfl,h.2⟩ q⟩
def tDisp (trs : List (TE × TE)) : TE := fun σ H Q => ∀ p,H p = none → tPairs trs σ (upd H p (.dK [])) fun ps H2 => H2 p = some (.dK []) ∧ ∃ kvs : List (Key × V),ps = kvs.map (fun kv => (kV kv.1,kv.2)) ∧ kvs.length ≤ 15 ∧ Q (.ref p) (upd H2 p (.dK (mergeK [] kvs)))
theorem pe_disp {X : Cx} {pos : Pos} {keys : List (Option Expr)} {values : List Expr} {trs : List (TE × TE)} (h : PPs X pos keys values trs) (hall : keys.all (·.isSome) = true) (hl : keys.length = values.length) (h0 : keys ≠ [])
    (h15 : keys.length ≤ 15) : PE X (.Dict keys values pos) (tDisp trs) := by
  intro pins s σ H Q I q
  have hn := I.hok.fresh (Nat.le_refl s.heap.objs.size)
  have I1 := I.laid (a := s.heap.objs.size) (o := .dK []) (h' := s.heap.push { cls := .type "dict",data := .dict #[] }) (t' := s.toks) (fun _ _ q => Heap.get?_push_of_some _ q) (Nat.le_refl _) (dk_empty s.heap I.big)
  refine wpAny_Dict_walk (knd := mixKind X.prog X.w) hall hl h0 h15 (thn (h pins _ σ _ _ I1 (q _ hn)) fun ws s2 ⟨ps,H2,I2,rel,e,kvs,ep,lk,q2⟩ => ?_)
  subst ep
  obtain ⟨rs,c,rk⟩ := carries_of (P := X.prog) (w := X.w) rel
  obtain ⟨z,hd,vs0,r0,dd⟩ := dk_of I2.hok e
  cases r0
  refine ⟨rs,c,dd,fun h' dd' hs => ⟨.ref s.heap.objs.size,_,?_,rfl,q2⟩⟩
  have hz : (mergeK [] kvs).length ≤ sizeLine := by
    have h1 := length_mergeK kvs []
    rw [List.length_nil] at h1
    rw [sizeLine_eq]; omega
  have he : ∃ q,h'.get? s.heap.objs.size = some q := let ⟨q,_,_,hq,_⟩ := dd'; ⟨q,hq⟩
  exact d_write I2 (by rw [e]; exact True.intro) hs he (dk_new hz hd (rk.merge .nil) dd')
section
variable {X : Cx} {pins : List (Addr × Obj)} {σ : St} {H : Hp} {s : Shared} {a : Addr} {y d : V} {u r : Value} {o : Option V} {A : Around} {E : Value → Shared → Prop}
end
section
variable {X : Cx} {o e f : Expr} {apos cpos : Pos} {td ty tx : TE}
end
section
variable {X : Cx} {pins : List (Addr × Obj)} {σ : St} {H : Hp} {s : Shared} {a : Addr} {kvs : List (Key × V)} {A : Around} {E : Value → Shared → Prop}
end
section
variable {X : Cx} {pins : List (Addr × Obj)} {σ : St} {H : Hp} {s : Shared} {a : Addr} {y : V} {u : Value} {A : Around} {E : Value → Shared → Prop}
end
end L2
namespace L2
open PySem PySem.Spec PyProof.Rows
section
variable {X : Cx}
end
end L2
namespace L2
open PySem PySem.Spec PyProof.Rows
section
variable {X : Cx}
def rIsEM (K : PySem.W.Frag) (Cs : Addr → Prop) : List V → Hp → VK → Prop := fun xs H Q => ∃ C,Cs C ∧ rIsE K C xs H Q
theorem call_isexcM {Cs : Addr → Prop} (h : ∀ C,Cs C → (∃ n,ExcC X.K X.mg n C) ∧ ExcF X.K C) : CallR X (.builtin "isinstance") (rIsEM X.K Cs) := by
  intro pins s σ H xs us Q I rs q
  obtain ⟨C,hC,q⟩ := q
  obtain ⟨⟨n,O⟩,f⟩ := h C hC
  exact call_isexc O f pins s σ H xs us Q I rs q
end
end L2
namespace L2
open PySem PySem.Spec PyProof.Rows
section
variable {X : Cx}
end
end L2
namespace L2
open PySem PySem.Spec PyProof.Rows
section
variable {X : Cx}
def tNewE (C : Addr) : TE := fun _ H Q => ∀ p H2,Same H H2 → H2 p = some (excO C p) → H p = none → Q (.ref p) H2
theorem pe_newE {x : Str} {C : Addr} {np cpos : Pos} (O : ExcC X.K X.mg x C) (hg : Gl X x) (hex : X.ex = []) (hdb : (x == ("__debug__" : Str)) = false := by decide) :
    PE X (.Call (.Name x np) [] [] cpos) (tNewE C) := by
  intro pins s σ H Q I h
  obtain ⟨bm,N',nm,qn,bs,hd,sn,sub,ab,col,dd,k0,k1,k2,k3,k5,mN,hC,hN,hni,T⟩ := O.obj s.heap I.kIn
  refine wpAny_Call_ofName (ld_glob I hg O.bound ?_ hdb)
  show wpAny _ _ (callWith cpos (.ref C) [] [] []) _ _ s
  unfold callWith
  refine wpAny_bind (wpAny_holding (evalArgs_empty (wpAny_bind (wpAny_standAt ?_))))
  obtain ⟨hp,g,d,tk,os⟩ := s
  refine wpAny_bind (wpAny_keeperOf_exc hC ?_)
  refine wpAny_bind (wpAny_call_exc_subT (hrest := Nat.zero_le _) PySem.F.excBase_ValueError T hC hN hni fun h' e hm => wpAny_bind (wpAny_holding (wpAny_point (wpAny_pure ?_))))
  have new : ∀ b o,hp.get? b = some o → b ≠ e := fun b o eb z => by
    subst z
    rw [hm.new] at eb
    cases eb
  have I1 : Inv X pins σ H ⟨h',g,d,tk,os⟩ := I.kept (t' := tk) hm.keeps
  have hn : H e = none := by
    cases hz : H e with
    | none => rfl
    | some o =>
      obtain ⟨ob,z⟩ := (I.hok e o hz).has
      exact absurd rfl (new e ob z)
  obtain ⟨t,ht,_,_⟩ := hm.there
  have I2 := I1.track (a := e) (o := excO C e) hn (by
    cases hz : X.s₀.heap.get? e with
    | none => rfl
    | some o =>
      obtain ⟨o',z⟩ := I.base.there e o hz (by rw [hex]; exact List.not_mem_nil)
      exact absurd rfl (new e o' z)) (fun z => by
    obtain ⟨m,⟨o',_,_,z',_⟩,_⟩ := I.loc
    exact new _ o' z' z.symm) (fun y c z z2 => by
    obtain ⟨v,o',z',_⟩ := I.cell y c z
    exact new _ o' z' z2) (fun p hp z => new _ _ (I.pin p hp).1 z) (excO_ok ⟨_,ht,rfl⟩)
  exact ⟨.ref e,_,I2,rfl,h e _ (Same.new hn) upd_same hn⟩
theorem bt_any : bootBuiltins "any" = some (.builtin "any") := by decide +kernel
theorem any_range (bs : List Bool) : ((List.range bs.length).any fun i => (bs[i]?).getD true) = bs.any id := by
  rw [Bool.eq_iff_iff]
  simp only [List.any_eq_true,List.mem_range,id]
  constructor
  · rintro ⟨i,hi,z⟩
    rw [List.getElem?_eq_getElem hi] at z
    exact ⟨_,List.getElem_mem hi,z⟩
  · rintro ⟨b,hb,z⟩
    obtain ⟨i,hi,rfl⟩ := List.mem_iff_getElem.mp hb
    exact ⟨i,hi,by rw [List.getElem?_eq_getElem hi]; exact z⟩
theorem call_any (hc : X.calm = true) : CallR X (.builtin "any") (fun xs H Q => ∃ (p : Addr) (bs : List Bool),xs = [.ref p] ∧ SqL X.K H p (bs.map V.bl) ∧ Q (.bl (bs.any id)) H) := by
  intro pins s σ H xs us Q I r h
  obtain ⟨p,bs,rfl,hq,q⟩ := h
  obtain ⟨u,rfl,rx⟩ := vals1 r
  cases rx
  obtain ⟨its,rv,pl,_⟩ := I.list hq
  have hl := pl.isList
  have lt : p < s.heap.objs.size := by
    obtain ⟨_,e,_⟩ := hl
    exact Heap.lt_size e
  refine call_any_walk (wpAny_pyIter_list hl ?_)
  refine ⟨s.heap.objs.size,[s.heap.objs.size,p],[s.heap.objs.size],its.toArray.size,_,_,fun i => (bs[i]?).getD true,rfl,Walks.list (A := X.A.in1) (I.ok.hd hc) _ p (Nat.ne_of_lt lt) its.toArray,?_⟩
  refine ⟨⟨⟨_,Heap.get?_push_size _ rfl,rfl,rfl⟩,hl.push _⟩,fun i v s' Q' E' hP hQ => ?_,fun h' tk hk => ?_⟩
  · obtain ⟨b,e,rfl⟩ := bl_at rv (by simpa using hP)
    simp only [e,Option.getD_some] at hQ
    exact wpAny_truthy_bool hQ
  · have el : its.toArray.size = bs.length := by
      have := rv.length
      rw [List.length_map] at this
      rw [List.size_toArray]
      omega
    rw [el,any_range]
    refine ⟨.bl _,H,I.kept (t' := tk) fun b o e => ?_,rfl,q⟩
    exact hk b o (fun hm => by rw [List.mem_singleton.mp hm] at e; exact Nat.lt_irrefl _ (Heap.lt_size e)) (Heap.get?_push_of_some _ e)
end
end L2
namespace L2
open PySem PySem.Spec PyProof.Rows
section
variable {X : Cx}
theorem run_fxd {pins : List (Addr × Obj)} {s : Shared} {σ : St} {H : Hp} {Q : VK} {R : Value → St → Hp → Prop} {x : Str} {ps : List Str} {k : Nat} {ds : List V} {sp : Sp} {p pos : Pos} {e : Expr} {es : List Expr} {t : TA} (I : Inv X pins σ H s)
    (F : Fx X.prog X.w X.K X.mg X.base x ps k ds sp) (hr : Room k X.A) (hg : Gl X x) (ha : PA X.nox (e :: es) t) (q : t σ H fun vs H1 => sp (vs ++ ds) H1 Q fun c _ H2 => R c σ H2)
    (hdb : (x == ("__debug__" : Str)) = false) (he : starEach (e :: es) X.env = (false,eval e X.env) :: starEach es X.env) (hpl : (backTo pos (starEach es X.env)).any (·.1) = false) :
    wpAny (model X.prog X.w) X.A (eval (.Call (.Name x p) (e :: es) [] pos) X.env) (EP X pins σ Q) (XP X pins R) s := by
  obtain ⟨f,fd,its,hm,hk,_,hb,hv,G⟩ := F.ex
  refine wpAny_Call_Name_kw (ld_glob I hg hm ?_ hdb)
  refine PySem.W.callWith_K (h₀ := X.base) I.ok.mod.kin hk (wpAny_mono (ha pos pins s σ H _ (I.wish _) q) (fun us s1 ⟨vs,H1,J1,r,q1⟩ => ?_) fun _ _ z => False.elim z) he hpl
  have I1 : Inv X pins σ H1 s1 := J1.unwish
  refine ⟨I1.kIn,?_⟩
  have hl : (us ++ its).length = ps.length := by
    have := G.len _ _ _ _ q1
    rw [List.length_append] at this ⊢
    rw [← r.length,← hv.length]
    exact this
  have hbb := hb s1 us I1.kIn hl
  refine wpAny_call (codeAny_mono (G.run X.A X.stack s1 H1 ⟨us,[]⟩ (us ++ its) (vs ++ ds) Q _ hr I1.env0 hbb (r.append hv) q1) fun rr s' hq => ?_)
  cases rr with
  | error ev => exact ⟨s1,σ,H1,(fun c _ H2 => R c σ H2),I1,hq,fun c o H' z => z⟩
  | ok flw =>
    cases flw with
    | ret u => exact I1.after hq
    | next => exact False.elim hq
    | brk => exact False.elim hq
    | cont => exact False.elim hq
variable {x fn : Str} {i : Nat} {ps : List Str} {k : Nat} {ds : List V} {sp : Sp} {e : Expr} {es : List Expr} {ta : TA} {px pf cpos pos : Pos}
theorem px_exprd (F : Fx X.prog X.w X.K X.mg X.base fn ps k ds sp) (hr : Room k X.A) (hg : Gl X fn) (ha : PA X.nox (e :: es) ta) (hs : swapsWith (.Call (.Name fn pf) (e :: es) [] cpos) none pos.line X.env = pure false := by rfl)
    (hdb : (fn == ("__debug__" : Str)) = false := by decide) (he : starEach (e :: es) X.env = (false,eval e X.env) :: starEach es X.env := by rfl) (hpl : (backTo cpos (starEach es X.env)).any (·.1) = false := by rfl) :
    PX X (.Expr (.Call (.Name fn pf) (e :: es) [] cpos) pos) (fun R D σ H => ta σ H fun vs H1 => sp (vs ++ ds) H1 (fun _ H2 => D.nx σ H2) fun c _ H2 => R c σ H2) := by
  intro pins s σ H D R I h
  exact wpAny_Expr_any (thn (run_fxd I F hr hg ha h hdb he hpl) fun v s1 ⟨y,H1,I1,r1,q1⟩ => ⟨σ,H1,I1,q1⟩) I.quiet hs
end
end L2
namespace L2
open PySem PySem.Spec PyProof.Rows
theorem pe_fn0 {X : Cx} {x : Str} {ps : List Str} {k : Nat} {sp : Sp} {p pos : Pos} (F : Fn X.prog X.w X.K X.mg X.base x ps k sp) (hr : Room k X.A) (hg : Gl X x) (hdb : (x == ("__debug__" : Str)) = false := by decide) :
    PE X (.Call (.Name x p) [] [] pos) (tCall sp [] E0 tNil) := by
  obtain ⟨f,fd,o,hm,hk,hb,_,G⟩ := F.ex
  exact pe_call0 G hr hg hm hk (.all hb) .nil pass0 hdb
end L2
namespace Hd
open PySem PySem.W PySem.Spec L2
def live (o : Obj) : Bool := match o.data with
  | .freed => false
  | _ => true
def nums : Nat → List Obj → Frag
  | _,[] => []
  | n,a :: r => bif live a then (n,a) :: nums (n + 1) r else nums (n + 1) r
theorem nums_at : ∀ (l : List Obj) (n a : Nat) (o : Obj),(nums n l).lookup a = some o → n ≤ a ∧ l[a - n]? = some o ∧ live o = true
  | [],_,_,_,e => by cases e
  | x :: r,n,a,o,e => by
    have up : (nums (n + 1) r).lookup a = some o → n ≤ a ∧ (x :: r)[a - n]? = some o ∧ live o = true := fun e => by
      obtain ⟨h1,h2,h3⟩ := nums_at r (n + 1) a o e
      refine ⟨by omega,?_,h3⟩
      have : a - n = (a - (n + 1)) + 1 := by omega
      rw [this]
      exact h2
    unfold nums at e
    cases hl : live x with
    | false =>
      rw [hl] at e
      exact up e
    | true =>
      rw [hl,cond_true,List.lookup_cons] at e
      cases hb : a == n with
      | true =>
        rw [hb] at e
        have hb := beq_iff_eq.mp hb
        subst hb
        cases e
        exact ⟨Nat.le_refl _,by simp,hl⟩
      | false =>
        rw [hb] at e
        exact up e
def frag (h : Heap) : Frag := nums 0 h.objs.toList
theorem frag_in (h : Heap) : (frag h).In h := by
  intro a o e
  obtain ⟨_,q,hl⟩ := nums_at _ _ _ _ e
  have q : h.objs[a]? = some o := by simpa using q
  unfold Heap.get?
  rw [q]
  obtain ⟨c,d,dt,sl⟩ := o
  cases dt <;> first | rfl | cases hl
def fnFact (K : Frag) (x : Str) : Option (Arguments × List Stmt × Scope × Value) := match nsIn K mainGlobals x with
  | some (some (.ref f)) => (match K.lookup f with
    | some ⟨_,_,.func fd,_⟩ => (match fd.body,fd.closure with
      | .stmts b,[] => bif (fd.name == x && (fd.qualname == x && (Nat.beq fd.globals mainGlobals && (Nat.beq fd.builtins builtinsNs && codeIn K fd.code x)))) then some (fd.params,b,fd.scope,fd.defaults) else none
      | _,_ => none)
    | _ => none)
  | _ => none
theorem fnFact_spec {K : Frag} {x : Str} {a : Arguments} {b : List Stmt} {sc : Scope} {dv : Value} (e : fnFact K x = some (a,b,sc,dv)) :
    ∃ (f : Addr) (oc : Value) (od : Option Addr) (kV doc pm : Value) (an : Option Addr) (cdv ct : Value) (osl : Array (Option Value)),
      nsIn K mainGlobals x = some (some (.ref f)) ∧ K.lookup f = some ⟨oc,od,.func (fnOf x x a b sc dv kV doc pm an cdv ct),osl⟩ ∧ codeIn K cdv x = true ∧ keepIn K (.ref f) = true := by
  unfold fnFact at e
  split at e
  · rename_i f hf
    split at e
    · rename_i oc od fd osl hl
      split at e
      · rename_i b' hb hc
        cases hq : (fd.name == x && (fd.qualname == x && (Nat.beq fd.globals mainGlobals && (Nat.beq fd.builtins builtinsNs && codeIn K fd.code x)))) with
        | false => rw [hq] at e; cases e
        | true =>
          rw [hq] at e
          simp only [Bool.and_eq_true] at hq
          obtain ⟨h1,h2,h3,h4,h5⟩ := hq
          replace h1 := eq_of_beq h1
          replace h2 := eq_of_beq h2
          replace h3 := Nat.eq_of_beq_eq_true h3
          replace h4 := Nat.eq_of_beq_eq_true h4
          simp only [cond_true,Option.some.injEq,Prod.mk.injEq] at e
          obtain ⟨e1,e2,e3,e4⟩ := e
          obtain ⟨n,qn,ps,bd,s,gl,cl,df,kw,dc,pm,an,cd,ct,bl⟩ := fd
          simp only at h1 h2 h3 h4 h5 e1 e2 e3 e4 hb hc
          subst h1 h2 h3 h4 e1 e2 e3 e4 hb hc
          refine ⟨f,oc,od,kw,dc,pm,an,cd,ct,osl,hf,hl,h5,?_⟩
          unfold keepIn
          dsimp only
          rw [hl]
      · cases e
    · cases e
  · cases e
theorem df_of {K : Frag} {mg : Str → Option Value} {h : Heap} {x : Str} {st : Stmt} (X : K.In h) (G : h.Ns mainGlobals mg) (e : fnFact K x = some (defArgs st,defBody st,defScope st,.none)) : Df K mg x st := by
  obtain ⟨f,oc,od,kV,doc,pm,an,cdv,ct,osl,h1,h2,h3,h4⟩ := fnFact_spec e
  exact df_mk X G h1 h2 h3 h4
def bareV : Value → V
  | .none => .non
  | .bool b => .bl b
  | .int i _ => .int i
  | .str x _ => .str x
  | .bytes b _ => .byt b
  | .float b _ => .flt b
  | .ref a => .ref a
  | .type n => .ty n
  | _ => .ty "no plain value"
def plainV : Value → Bool
  | .ellipsis | .notImplemented | .builtin _ => false
  | _ => true
theorem bareV_rel : ∀ {v : Value},plainV v = true → RelV (bareV v) v
  | .none,_ => rfl
  | .bool _,_ => rfl
  | .int _ t,_ => ⟨t,rfl⟩
  | .str _ t,_ => ⟨t,rfl⟩
  | .bytes _ t,_ => ⟨t,rfl⟩
  | .float _ t,_ => ⟨t,rfl⟩
  | .ref _,_ => rfl
  | .type _,_ => rfl
  | .ellipsis,h => by cases h
  | .notImplemented,h => by cases h
  | .builtin _,h => by cases h
theorem vals_bare : ∀ {l : List Value},l.all plainV = true → Vals (l.map bareV) l
  | [],_ => .nil
  | _ :: _,h => by
    rw [List.all_cons,Bool.and_eq_true] at h
    exact .cons (bareV_rel h.1) (vals_bare h.2)
def seqAt (K : Frag) (v : Value) : Option (List V) := match v with
  | .ref a => (match K.lookup a with
    | some ⟨_,_,.seq its _,_⟩ => bif its.toList.all plainV then some (its.toList.map bareV) else none
    | _ => none)
  | _ => none
theorem seqAt_spec {K : Frag} {v : Value} {ds : List V} (e : seqAt K v = some ds) : ∃ (a : Addr) (o : Obj) (its : List Value) (n : Nat),v = .ref a ∧ K.lookup a = some o ∧ o.data = .seq its.toArray n ∧ Vals ds its := by
  unfold seqAt at e
  split at e
  · rename_i a
    split at e
    · rename_i oc od its n osl hl
      cases hq : its.toList.all plainV with
      | false => rw [hq] at e; cases e
      | true =>
        rw [hq] at e
        cases e
        exact ⟨a,_,its.toList,n,rfl,hl,rfl,vals_bare hq⟩
    · cases e
  · cases e
def fnFactD (K : Frag) (x : Str) : Option (Arguments × List Stmt × Scope × List V) := match fnFact K x with
  | some (a,b,s,dv) => (match seqAt K dv with
    | some ds => some (a,b,s,ds)
    | none => none)
  | none => none
theorem dfd_of {K : Frag} {mg : Str → Option Value} {h : Heap} {x : Str} {st : Stmt} {ds : List V} (X : K.In h) (G : h.Ns mainGlobals mg) (e : fnFactD K x = some (defArgs st,defBody st,defScope st,ds)) : DfD K mg x st ds := by
  unfold fnFactD at e
  split at e
  · rename_i a b s dv hf
    split at e
    · rename_i ds' hs
      simp only [Option.some.injEq,Prod.mk.injEq] at e
      obtain ⟨e1,e2,e3,e4⟩ := e
      subst e1 e2 e3 e4
      obtain ⟨f,oc,od,kV,doc,pm,an,cdv,ct,osl,h1,h2,h3,h4⟩ := fnFact_spec hf
      obtain ⟨T,oT,its,n,rfl,hl,hd,hv⟩ := seqAt_spec hs
      exact dfd_mk X G h1 h2 h3 h4 hl hd hv
    · cases e
  · cases e
def cls (K : Frag) (x : Str) : Addr := match nsIn K mainGlobals x with
  | some (some (.ref C)) => C
  | _ => 0
def excFact (K : Frag) (x : Str) : Bool := match nsIn K mainGlobals x with
  | some (some (.ref C)) => excIn K C [.type "ValueError",.type "Exception",.type "BaseException",.type "object"] "ValueError.__new__"
  | _ => false
theorem exc_of {K : Frag} {mg : Str → Option Value} {h : Heap} {x : Str} (X : K.In h) (G : h.Ns mainGlobals mg) (e : excFact K x = true) : ExcC K mg x (cls K x) := by
  unfold excFact at e
  split at e
  · rename_i C hC
    have : cls K x = C := by unfold cls; rw [hC]
    rw [this]
    exact exc_mk X G hC e
  · cases e
def tupFact (K : Frag) (x : Str) : Option (List V) := match nsIn K mainGlobals x with
  | some (some (.ref a)) => (match K.lookup a with
    | some ⟨.type "tuple",_,.seq its _,_⟩ => bif its.toList.all plainV then some (its.toList.map bareV) else none
    | _ => none)
  | _ => none
def noFact (K : Frag) (x : Str) : Bool := match nsIn K mainGlobals x with
  | some none => true
  | _ => false
theorem no_of {K : Frag} {x : Str} (e : noFact K x = true) : nsIn K mainGlobals x = some none := by
  unfold noFact at e
  split at e
  · rename_i h
    exact h
  · cases e
theorem at_map {α β : Type} {f g : α → β} {l : List α} (e : l.map f = l.map g) (i : Nat) {a : α} (h : l[i]? = some a) : f a = g a := by
  have q := congrArg (fun l : List β => l[i]?) e
  simp only [List.getElem?_map,h,Option.map_some,Option.some.injEq] at q
  exact q
theorem at_all {α : Type} {f : α → Bool} {l : List α} (e : l.all f = true) (i : Nat) {a : α} (h : l[i]? = some a) : f a = true :=
  List.all_eq_true.mp e a (List.mem_of_getElem? h)
theorem at_two {α : Type} {l m : List α} (e : l = m) (i : Nat) {a b : α} (h : l[i]? = some a) (h' : m[i]? = some b) : a = b := by
  subst e
  rw [h] at h'
  exact Option.some.inj h'
def hook {α : Type} (facts : Frag → α) (val : α) : Hook :=
  ⟨α,fun s => facts (frag s.heap),fun _ => val,fun _ h => ∃ K : Frag,K.In h ∧ facts K = val,fun _ s e => ⟨_,frag_in s.heap,e⟩,fun _ _ _ ⟨K,hi,e⟩ k => ⟨K,Frag.In.keeps hi k,e⟩⟩
theorem law_walk {l : OpenLaw} {k : Nat} {q : Program} {loose : List Str} {XP : (Str → Option Value) → Heap → Prop} {d : DefRec} {α : Type} {facts : Frag → α} {val : α} (hk : Room k callerA) (hn : l.most = some 63) (hdf : d.params.defaults = [])
    (F : ∀ (K : Frag),facts K = val → ∀ (w : World) (mg : Str → Option Value) (fa : Addr) (h : Heap),K.In h → h.Ns mainGlobals mg → mg d.name = some (.ref fa) →
      ∃ fd : FuncData,(∀ (s : Shared) (u : Value),BindsTo s fd ⟨[u],[]⟩ [("script",u)]) ∧ ∀ base : Heap,K.In base → base.Ns mainGlobals mg → FnOk l.prog w K mg base CX0 k fa fd ["script"] (spLaw K)) :
    WalkO q loose XP (Hook.says (hook facts val)) l.row.toRowW d [] (fun f vs => PySem.call f vs) := by
  intro w s₀ s₁ mg mb G Y
  obtain ⟨K,hin,hf⟩ := Y
  exact L2.law_walk (l := l) (k := k) (q := q) (loose := loose) (XP := XP) (YP := fun _ h => K.In h) (d := d) (K := fun _ => K) hk hn hdf (fun _ _ y => y) (fun w mg fa h => F K hf w mg fa h) w s₀ s₁ mg mb G hin
end Hd
namespace Hd
open PySem PySem.W PySem.Spec L2
end Hd
namespace L2
open PySem PySem.Spec PyProof.Rows
end L2
namespace Hd
open PySem PySem.W PySem.Spec L2
theorem pair2 {α β : Type _} {a a' : α} {b b' : β} (h : a = a') (g : b = b') : (a,b) = (a',b') := by rw [h,g]
end Hd
namespace Hd
open PySem PySem.W PySem.Spec L2
end Hd
local macro_rules | `(tactic| walk_at "bt") => `(tactic| first
  | assumption
  | (apply L2.bits_mul <;> walk_at "bt")
  | (apply L2.bits_add2 <;> walk_at "bt")
  | (apply L2.bits_sub2 <;> walk_at "bt")
  | (apply L2.bits_neg; walk_at "bt")
  | (apply L2.bits_abs; walk_at "bt")
  | exact L2.bits_lit)
local macro_rules | `(tactic| walk_at "bl") => `(tactic| (apply L2.bits_of_le; (walk_at "bt"); decide))
local macro_rules | `(tactic| walk_at "cm") => `(tactic| first
  | exact L2.CM.l ⟨by decide,by decide⟩
  | exact L2.CM.r ⟨by decide,by decide⟩
  | (apply L2.CM.of; (walk_at "bt"); (walk_at "bt"); decide))
local macro_rules | `(tactic| walk_at "at") => `(tactic| first
  | assumption
  | exact L2.upd_same
  | (refine L2.Same.at (by assumption) ?_; walk_at "at")
  | (refine L2.SameT.at (by assumption) ?_; walk_at "at"))
local macro_rules | `(tactic| walk_at "sm") => `(tactic| first
  | assumption
  | exact L2.Same.rfl'
  | (refine L2.Same.trans ?_ (by assumption); walk_at "sm"))
local macro_rules | `(tactic| walk_at "kn") => `(tactic| first
  | assumption
  | exact ⟨_,.int _⟩ | exact ⟨_,.bl _⟩ | exact ⟨_,.str _⟩ | exact ⟨_,.non⟩
  | exact ⟨_,.tup (by walk_at "at")⟩ | exact ⟨_,.lst (by walk_at "at")⟩ | exact ⟨_,.dict (by walk_at "at")⟩)
local macro_rules | `(tactic| walk_at "nice") => `(tactic| first
  | exact L2.nice_int | exact L2.nice_bool | exact L2.nice_tuple | exact L2.nice_list | exact L2.nice_str)
local macro_rules | `(tactic| walk_at "th") => `(tactic| first
  | assumption
  | exact Sp1.th_flat .non (fun p e => nomatch e) | exact Sp1.th_flat (.int _) (fun p e => nomatch e) | exact Sp1.th_flat (.bl _) (fun p e => nomatch e) | exact Sp1.th_flat (.str _) (fun p e => nomatch e)
  | exact Sp1.th_lst (by walk_at "at")
  | (refine' Sp1.th_tup ?hat ?hkn; (case hat => walk_at "at"); (case hkn => (simp only [List.mem_cons,List.not_mem_nil,or_false,forall_eq_or_imp,forall_eq,false_imp_iff,implies_true]; (try (first | (walk_at "kn") | (repeat' apply And.intro) <;> walk_at "kn")))))
  )
local macro_rules | `(tactic| walk_at "r1") => `(tactic| first
  | (refine ⟨_,rfl,?_⟩)
  | (refine ⟨_,_,rfl,rfl,?_⟩)
  | (refine' ⟨_,_,_,_,rfl,rfl,L2.SqT.of ?hat,?hix,?nxt⟩; (case hat => walk_at "at"); (case hix => exact rfl))
  | (refine' ⟨_,_,_,_,rfl,rfl,L2.SqL.of ?hat,?hix,?nxt⟩; (case hat => walk_at "at"); (case hix => exact rfl))
  | (refine ⟨by walk_at "cm",?_⟩)
  | (refine ⟨(by show (0 : Int) < _; decide),?_⟩)
  | (refine ⟨⟨by decide,by decide⟩,?_⟩)
  | (refine ⟨⟨by decide,by decide,by decide⟩,?_⟩)
  | (refine ⟨Sp1.sz (by simp),fun _ _ _ _ _ => ?_⟩)
  | (refine ⟨Sp1.sz (by simp),L2.alloc fun _ _ _ _ => ?_⟩)
  | (refine' ⟨_,_,_,_,rfl,rfl,?hat,?hbt,Sp1.sz ?hsz,fun _ _ _ _ _ => ?nxt⟩; (case hat => walk_at "at"); (case hbt => walk_at "at"); (case hsz => simp))
  | (refine' ⟨_,_,_,_,rfl,rfl,?hat,?hbt,Sp1.sz ?hsz,L2.alloc fun _ _ _ _ => ?nxt⟩; (case hat => walk_at "at"); (case hbt => walk_at "at"); (case hsz => simp))
  | (refine' ⟨_,_,rfl,.inl (L2.SqL.of ?hat),?nxt⟩; (case hat => walk_at "at"))
  | (refine' ⟨_,_,rfl,.inr (L2.SqT.of ?hat),?nxt⟩; (case hat => walk_at "at"))
  | (refine' L2.alloc fun _ _ _ _ => ?nxt))
local macro_rules | `(tactic| walk_at "rd") => `(tactic| repeat (walk_at "r1"))
namespace K2
open PySem PySem.Spec L2 Mth Sp1 Sp2 Sp3 Sp7 Dr
def top (i : Nat) : Stmt := PySem.Challenge.pw_oneleash_k02_no_fractions.main.body.getD i (.Pass ⟨0,0,0,0⟩)
structure Txt (mg : Str → Option Value) : Prop where
  z_ValueError : mg "ValueError" = none
  z_abs : mg "abs" = none
  z_any : mg "any" = none
  z_bool : mg "bool" = none
  z_int : mg "int" = none
  z_isinstance : mg "isinstance" = none
  z_len : mg "len" = none
  z_range : mg "range" = none
section
variable {P : Program} {w : World} {K : PySem.W.Frag} {mg : Str → Option Value} {base : Heap}
theorem S_is_whole : FnScope ["thing"] ["thing"] (defScope (top 17)) := ⟨rfl,rfl,rfl,by decide +kernel,rfl,by decide +kernel,by decide +kernel⟩
theorem fn_is_whole (D_is_whole : Df K mg "is_whole" (top 17)) (T : Txt mg) : Fn P w K mg base "is_whole" ["thing"] 1 spWhole := by
  refine D_is_whole.fn S_is_whole (fun _ _ _ _ _ _ us hl => match us,hl with | [_],_ => rfl) (fun vs H Q E h => ?_) (fun f cdv A outer s H vs Q E hr h => ?_)
  · obtain ⟨x,t,rfl,_⟩ := h
    rfl
  · obtain ⟨x,t,rfl,k,q⟩ := h
    refine ⟨_,(pss_one (ps_ret (pe_and (pe_callB call_isinst (by rfl) T.z_isinstance bt_isinstance (pa_cons (pv 0) (pa_cons (pe_ty T.z_int bt_int) pa_nil))) (pe_one (pe_not (pe_callB call_isinst (by rfl) T.z_isinstance bt_isinstance (pa_cons (pv 0) (pa_cons (pe_ty T.z_bool bt_bool) pa_nil)))))))),?_⟩
    refine ⟨_,rfl,x,t,"int",rfl,k,.inl rfl,_,rfl,?_⟩
    refine ite3 (fun hc => ?_) (fun hc => ?_)
    · refine ⟨_,rfl,x,t,"bool",rfl,k,.inr (.inl rfl),_,rfl,?_⟩
      rw [(whole_sub k).1 hc]
      exact q
    · rw [(whole_sub k).2 hc] at q
      exact q
theorem S_common_divisor : FnScope ["one","other","rest"] ["one","other"] (defScope (top 18)) := ⟨rfl,rfl,rfl,by decide +kernel,rfl,by decide +kernel,by decide +kernel⟩
theorem fn_common_divisor (D_common_divisor : Df K mg "common_divisor" (top 18)) (T : Txt mg) : Fn P w K mg base "common_divisor" ["one","other"] 1 spGcd := by
  refine D_common_divisor.fn S_common_divisor (fun _ _ _ _ _ _ us hl => match us,hl with | [_,_],_ => rfl) (fun vs H Q E h => ?_) (fun f cdv A outer s H vs Q E hr h => ?_)
  · obtain ⟨a,b,rfl,_⟩ := h
    rfl
  · obtain ⟨a,b,rfl,q⟩ := h
    refine ⟨_,(pss_cons (ps_set (i := 0) S_common_divisor.nd rfl (Or.inl rfl) (pe_callB call_abs (by rfl) T.z_abs bt_abs (pa_cons (pv 0) pa_nil))) (pss_cons (ps_set (i := 1) S_common_divisor.nd rfl (Or.inl rfl) (pe_callB call_abs (by rfl) T.z_abs bt_abs (pa_cons (pv 1) pa_nil))) (pss_cons (ps_while PassesOwn.never (pt_cmpR op_ne (pv 1) pe_int (nomark _)) (pss_cons (ps_set (i := 2) S_common_divisor.nd rfl (Or.inl rfl) (pe_op op_mod (pv 0) (pv 1))) (pss_cons (ps_set (i := 0) S_common_divisor.nd rfl (Or.inl rfl) (pv 1)) (pss_one (ps_set (i := 1) S_common_divisor.nd rfl (Or.inl rfl) (pv 2)))))) (pss_one (ps_ret (pv 0)))))),?_⟩
    refine ⟨_,rfl,a,rfl,_,rfl,b,rfl,?_⟩
    refine while_by (fun σ H' => ∃ x y r,σ = [some (.int x),some (.int y),r] ∧ H' = H ∧ 0 ≤ x ∧ 0 ≤ y ∧ Int.gcd x y = Int.gcd a b)
      (fun σ _ => match σ with | [_,some (.int y),_] => y.toNat | _ => 0) ⟨_,_,_,rfl,rfl,abs_nonneg a,abs_nonneg b,by rw [gcd_abs,gcd_abs']⟩ ?_ ?_
    · rintro σ H' ⟨x,y,r,rfl,rfl,hx,hy,hg⟩
      refine ⟨_,rfl,rfl,_,rfl,?_⟩
      refine ite3 (fun hc => ?_) (fun hc => ?_)
      · have hy0 : ¬ y = 0 := by simpa using hc
        have hy1 : 0 < y := by omega
        refine ⟨_,rfl,_,rfl,x,y,rfl,rfl,hy1,_,rfl,_,rfl,⟨y,x % y,_,rfl,rfl,hy,Int.emod_nonneg _ hy0,?_⟩,?_⟩
        · rw [gcd_step hx hy1]
          exact hg
        · have h1 := Int.emod_lt_of_pos x hy1
          have h2 := Int.emod_nonneg x hy0
          show (x % y).toNat < y.toNat
          omega
      · have hy0 : y = 0 := by simpa using hc
        subst hy0
        refine ⟨_,rfl,?_⟩
        have e : (Int.gcd a b : Int) = x := by rw [← hg]; exact gcd_zero hx
        rw [e] at q
        exact q
    · rintro σ H' Q1 Q2 hq ⟨v,e,hs,k,ek,r⟩
      exact ⟨v,e,hs,k,ek,hq _ _ r⟩
theorem S_law_mixed : FnScope ["cell","k","number"] ["cell","k"] (defScope (top 22)) := ⟨rfl,rfl,rfl,by decide +kernel,rfl,by decide +kernel,by decide +kernel⟩
theorem fn_law_mixed (D_law_mixed : Df K mg "_law_mixed" (top 22)) : Fn P w K mg base "_law_mixed" ["cell","k"] 1 spMixed := by
  refine D_law_mixed.fn S_law_mixed (fun _ _ _ _ _ _ us hl => match us,hl with | [_,_],_ => rfl) (fun vs H Q E h => ?_) (fun f cdv A outer s H vs Q E hr h => ?_)
  · obtain ⟨c,k,rfl,_⟩ := h
    rfl
  · obtain ⟨c,k,rfl,q⟩ := h
    refine ⟨_,(pss_cons (ps_set (i := 2) S_law_mixed.nd rfl (Or.inl rfl) (pe_op op_mod (pe_op op_mulX (pe_op op_add (pe_op op_add (pe_op op_mod (pv 0) pe_int) (pe_op op_mulX pe_int (pv 1))) pe_int) pe_int) pe_int)) (pss_cons (ps_set (i := 2) S_law_mixed.nd rfl (Or.inl rfl) (pe_op op_mod (pe_op op_add (pe_op op_mod (pe_op op_mulX (pv 2) (pv 2)) pe_int) (pe_op op_mulX pe_int (pv 1))) pe_int)) (pss_one (ps_ret (pe_op op_mod (pe_op op_mulX (pv 2) pe_int) pe_int))))),?_⟩
    refine ⟨_,rfl,c,_,rfl,rfl,(by show (0 : Int) < 2147483629; decide),_,rfl,_,_,rfl,rfl,CM.l ⟨by decide,by decide⟩,_,_,rfl,rfl,_,_,rfl,rfl,_,_,rfl,rfl,CM.r ⟨by decide,by decide⟩,_,_,rfl,rfl,(by show (0 : Int) < 2147483647; decide),?_⟩
    refine ⟨_,rfl,_,rfl,_,_,rfl,rfl,CM.l (lt64 (Int.emod_nonneg _ (by decide)) (Int.emod_lt_of_pos _ (by decide))),_,_,rfl,rfl,(by show (0 : Int) < 2147483629; decide),_,rfl,_,_,rfl,rfl,CM.l ⟨by decide,by decide⟩,_,_,rfl,rfl,_,_,rfl,rfl,(by show (0 : Int) < 2147483629; decide),?_⟩
    exact ⟨_,rfl,_,_,rfl,rfl,CM.r ⟨by decide,by decide⟩,_,_,rfl,rfl,(by show (0 : Int) < 2147483647; decide),q _⟩
theorem S_law_numbers : FnScope ["cell","many","base","found","left","k","number","turns"] ["cell","many","base"] (defScope (top 23)) := ⟨rfl,rfl,rfl,by decide +kernel,rfl,by decide +kernel,by decide +kernel⟩
theorem fn_law_numbers (D_law_numbers : Df K mg "_law_numbers" (top 23)) (F_law_mixed : Fn P w K mg base "_law_mixed" ["cell","k"] 1 spMixed) (T : Txt mg) : Fn P w K mg base "_law_numbers" ["cell","many","base"] 2 spNumbers := by
  refine D_law_numbers.fn S_law_numbers (fun _ _ _ _ _ _ us hl => match us,hl with | [_,_,_],_ => rfl) (fun vs H Q E h => ?_) (fun f cdv A outer s H vs Q E hr h => ?_)
  · obtain ⟨c,m,b,rfl,_⟩ := h
    rfl
  · obtain ⟨c,m,b,rfl,hm,⟨hb,bb⟩,q⟩ := h
    refine ⟨_,(pss_cons (ps_set (i := 3) S_law_numbers.nd rfl (Or.inl rfl) (pe_lst pa_nil)) (pss_cons (ps_set (i := 4) S_law_numbers.nd rfl (Or.inl rfl) (pe_op op_sub (pv 0) (pe_op op_pow pe_int pe_int))) (pss_cons (ps_for PassesOwn.never rfl (pi_range1 rfl T.z_range (pa_cons (pv 1) pa_nil)) (pg_name (i := 5) S_law_numbers.nd rfl (Or.inl rfl)) (pss_cons (ps_set (i := 6) S_law_numbers.nd rfl (Or.inl rfl) (pv 4)) (pss_cons (ps_if (pt_cmpR op_gt (pv 4) pe_int (nomark _)) (pss_one (ps_set (i := 4) S_law_numbers.nd rfl (Or.inl rfl) (pe_op op_fdivP (pv 4) (pv 2)))) (pss_cons (ps_set (i := 6) S_law_numbers.nd rfl (Or.inl rfl) pe_int) (pss_cons (ps_set (i := 7) S_law_numbers.nd rfl (Or.inl rfl) pe_int) (pss_one (ps_while PassesOwn.never (pt_cmpR op_lt (pe_op op_mulX (pv 7) pe_int) (pe_op op_add (pe_bm0 PySem.F.plainAttrs_int PySem.F.slot_int_bit_length PySem.F.type_int_bit_length mt_bitlen (pv 2)) pe_int) (nomark _)) (pss_cons (ps_set (i := 6) S_law_numbers.nd rfl (Or.inl rfl) (pe_op op_add (pe_op op_mulX (pv 6) pe_int) (pe_fn F_law_mixed (hr.mono (by decide)) (by rfl) (pa_cons (pv 0) (pa_cons (pe_op op_add (pe_op op_mulX pe_int (pv 5)) (pv 7)) pa_nil))))) (pss_one (ps_set (i := 7) S_law_numbers.nd rfl (Or.inl rfl) (pe_op op_add (pv 7) pe_int))))))))) (pss_one (ps_expr (pe_bm PySem.F.plainAttrs_list PySem.F.slot_list_append PySem.F.type_list_append mt_append (pv 3) (pa_cons (pe_op op_mod (pv 6) (pv 2)) pa_nil))))))) (pss_one (ps_ret (pv 3)))))),?_⟩
    refine ⟨by decide,fun l hl => ?_⟩
    refine ⟨_,rfl,_,_,rfl,rfl,⟨by decide,by decide,by decide⟩,_,_,rfl,rfl,?_⟩
    refine ⟨_,rfl,_,rfl,by omega,by omega,?_⟩
    rw [Int.toNat_natCast]
    refine for_range (fun i σ H' => ∃ (ns : List Int) (left : Int) (x5 x6 x7 : Option V),σ = [some (.int c),some (.int (m : Int)),some (.int b),some (.ref l),some (.int left),x5,x6,x7] ∧ Same H H' ∧ H' l = some (.lst (ns.map V.int)) ∧ ns.length = i ∧ ∀ n ∈ ns,0 ≤ n ∧ n < b)
      ⟨[],_,_,_,_,rfl,Same.new hl,upd_same,rfl,fun n h => nomatch h⟩ ?_ ?_
    · rintro i σ H' hi ⟨ns,left,x5,x6,x7,rfl,sm,hl',hlen,hns⟩
      refine ⟨_,rfl,?_⟩
      refine ⟨_,rfl,_,_,rfl,rfl,_,rfl,?_⟩
      have tail : ∀ (n left' : Int) (x7' : Option V),(tDrop (tBM K "list" rAppend (tVar 3) (tCons (tOp (rI (fun _ j => 0 < j) fun i j => .int (i % j)) (tVar 6) (tVar 2)) tNil))) { nx := fun σ H' => ∃ (ns : List Int) (left : Int) (x5 x6 x7 : Option V),σ = [some (.int c),some (.int (m : Int)),some (.int b),some (.ref l),some (.int left),x5,x6,x7] ∧ Same H H' ∧ H' l = some (.lst (ns.map V.int)) ∧ ns.length = i + 1 ∧ ∀ n ∈ ns,0 ≤ n ∧ n < b,rt := Q } [some (.int c),some (.int (m : Int)),some (.int b),some (.ref l),some (.int left'),some (.int (0 + (i : Int))),some (.int n),x7'] H' := by
        intro n left' x7'
        refine ⟨_,rfl,.inl ⟨rfl,_,SqL.of hl'⟩,_,rfl,_,rfl,n,b,rfl,rfl,hb,l,_,_,rfl,rfl,hl',?_,?_⟩
        · rw [List.length_map]
          exact small1000 (by omega)
        · refine ⟨ns ++ [n % b],left',_,_,_,rfl,?_,?_,?_,?_⟩
          · intro a o ea
            rw [upd_ne (ne_of_none ea hl)]
            exact sm a o ea
          · rw [upd_same,List.map_append]
            rfl
          · rw [List.length_append,hlen]
            rfl
          · intro y hy
            rcases List.mem_append.mp hy with hy | hy
            · exact hns y hy
            · rw [List.mem_singleton.mp hy]
              exact ⟨Int.emod_nonneg _ (by omega),Int.emod_lt_of_pos _ hb⟩
      refine ite3 (fun hc => ?_) (fun hc => ?_)
      · refine ⟨_,rfl,_,rfl,_,_,rfl,rfl,⟨hb,bits_le bb (by decide)⟩,?_⟩
        exact tail left (left / b) x7
      · refine while_by (fun σ H2 => ∃ (n t : Int),σ = [some (.int c),some (.int (m : Int)),some (.int b),some (.ref l),some (.int left),some (.int (0 + (i : Int))),some (.int n),some (.int t)] ∧ H2 = H' ∧ 0 ≤ t)
          (fun σ _ => match σ with | [_,_,_,_,_,_,_,some (.int t)] => (((bits b : Nat) : Int) + 8 - t).toNat | _ => 0) ⟨_,_,rfl,rfl,Int.le_refl 0⟩ ?_ ?_
        · rintro σ H2 ⟨n,t,rfl,rfl,ht⟩
          refine ⟨_,rfl,_,_,rfl,rfl,CM.r ⟨by decide,by decide⟩,_,rfl,rfl,b,rfl,rfl,_,_,rfl,rfl,_,_,rfl,rfl,_,rfl,?_⟩
          refine ite3 (fun hd => ?_) (fun hd => ?_)
          · have hd' : t * 30 < ((bits b : Nat) : Int) + 8 := by simpa using hd
            refine ⟨_,rfl,_,_,rfl,rfl,CM.r ⟨by decide,by decide⟩,_,rfl,_,rfl,_,_,rfl,rfl,CM.l ⟨by decide,by decide⟩,_,rfl,_,_,rfl,rfl,c,_,rfl,fun z => ⟨_,_,rfl,rfl,?_⟩⟩
            refine ⟨_,rfl,_,_,rfl,rfl,⟨_,t + 1,rfl,rfl,by omega⟩,?_⟩
            show (((bits b : Nat) : Int) + 8 - (t + 1)).toNat < (((bits b : Nat) : Int) + 8 - t).toNat
            omega
          · exact tail n left _
        · rintro σ H2 Q1 Q2 hq h
          obtain ⟨v,e,i1,j1,e1,e2,cm,v2,e3,ty,i2,e4,e5,i3,j3,e6,e7,i4,j4,e8,e9,k,ek,r⟩ := h
          exact ⟨v,e,i1,j1,e1,e2,cm,v2,e3,ty,i2,e4,e5,i3,j3,e6,e7,i4,j4,e8,e9,k,ek,hq _ _ r⟩
    · rintro σ H' ⟨ns,left,x5,x6,x7,rfl,sm,hl',hlen,hns⟩
      refine ⟨_,rfl,?_⟩
      exact q l ns H' hlen hns sm hl'
structure Cl (K : PySem.W.Frag) (mg : Str → Option Value) (cs : List Addr) : Prop where
  exc : ∀ C ∈ cs,∃ n,ExcC K mg n C
  f : ∀ C ∈ cs,ExcF K C
  mx : ∀ (i j : Nat) C D,cs[i]? = some C → cs[j]? = some D → PySem.W.kitOne K (.ref C) (.ref D) = some (i == j || j == 14)
  v : ∀ C ∈ cs,PySem.W.kitOne K (.ref C) (.type "ValueError") = some true
theorem at_mem {α β : Type} {xs : List α} {f : α → β} {n : Nat} {b : β} (h : xs.map f = List.replicate n b) : ∀ x ∈ xs,f x = b := fun x hx => by
  have : f x ∈ List.replicate n b := by rw [← h]; exact List.mem_map.mpr ⟨x,hx,rfl⟩
  exact (List.mem_replicate.mp this).2
theorem Cl.of {K : PySem.W.Frag} {mg : Str → Option Value} {a0 a1 a2 a3 a4 a5 a6 a7 a8 a9 a10 a11 a12 a13 a14 : Addr}
    (h : (∃ n,ExcC K mg n a0) ∧ (∃ n,ExcC K mg n a1) ∧ (∃ n,ExcC K mg n a2) ∧ (∃ n,ExcC K mg n a3) ∧ (∃ n,ExcC K mg n a4) ∧ (∃ n,ExcC K mg n a5) ∧ (∃ n,ExcC K mg n a6) ∧ (∃ n,ExcC K mg n a7) ∧ (∃ n,ExcC K mg n a8) ∧ (∃ n,ExcC K mg n a9) ∧ (∃ n,ExcC K mg n a10) ∧ (∃ n,ExcC K mg n a11) ∧ (∃ n,ExcC K mg n a12) ∧ (∃ n,ExcC K mg n a13) ∧ (∃ n,ExcC K mg n a14))
    (MX : [a0,a1,a2,a3,a4,a5,a6,a7,a8,a9,a10,a11,a12,a13,a14].map (fun C => [a0,a1,a2,a3,a4,a5,a6,a7,a8,a9,a10,a11,a12,a13,a14].map (fun D => PySem.W.kitOne K (.ref C) (.ref D))) = (List.range 15).map (fun i => (List.range 15).map (fun j => some (i == j || j == 14))))
    (VX : [a0,a1,a2,a3,a4,a5,a6,a7,a8,a9,a10,a11,a12,a13,a14].map (fun C => PySem.W.kitOne K (.ref C) (.type "ValueError")) = List.replicate 15 (some true))
    (FA : [a0,a1,a2,a3,a4,a5,a6,a7,a8,a9,a10,a11,a12,a13,a14].map (fun C => PySem.W.findIn K (.ref C) "__getattribute__") = List.replicate 15 (some (some (.builtin "BaseException.__getattribute__"))))
    (FB : [a0,a1,a2,a3,a4,a5,a6,a7,a8,a9,a10,a11,a12,a13,a14].map (fun C => PySem.W.findIn K (.ref C) "__getattr__") = List.replicate 15 (some none))
    (FC : [a0,a1,a2,a3,a4,a5,a6,a7,a8,a9,a10,a11,a12,a13,a14].map (fun C => PySem.W.findIn K (.ref C) "__class__") = List.replicate 15 (some (some (.builtin "object.__class__")))) :
    Cl K mg [a0,a1,a2,a3,a4,a5,a6,a7,a8,a9,a10,a11,a12,a13,a14] := by
  refine ⟨fun C hC => ?_,fun C hC => ⟨at_mem FA C hC,at_mem FB C hC,at_mem FC C hC⟩,fun i j C D hi hj => ?_,fun C hC => at_mem VX C hC⟩
  · obtain ⟨h0,h1,h2,h3,h4,h5,h6,h7,h8,h9,h10,h11,h12,h13,h14⟩ := h
    simp only [List.mem_cons,List.not_mem_nil,or_false] at hC
    rcases hC with rfl | rfl | rfl | rfl | rfl | rfl | rfl | rfl | rfl | rfl | rfl | rfl | rfl | rfl | rfl <;> assumption
  · have h1 := congrArg (fun l => l[i]?) MX
    simp only [List.getElem?_map] at h1
    rw [hi] at h1
    have hi15 : i < 15 := (List.getElem?_eq_some_iff.mp hi).1
    have hj15 : j < 15 := (List.getElem?_eq_some_iff.mp hj).1
    rw [List.getElem?_range hi15] at h1
    have h2 := congrArg (fun l => l[j]?) (Option.some.inj h1)
    simp only [List.getElem?_map] at h2
    rw [hj,List.getElem?_range hj15] at h2
    exact Option.some.inj h2
theorem Cl.m {K : PySem.W.Frag} {mg : Str → Option Value} {cs : List Addr} (c : Cl K mg cs) {i j : Nat} {C D : Addr} (hi : cs[i]? = some C) (hj : cs[j]? = some D) (h : j ≠ 14) : PySem.W.kitOne K (.ref C) (.ref D) = some (i == j) := by
  rw [c.mx i j C D hi hj,beq_eq_false_iff_ne.mpr h,Bool.or_false]
def marks (i : Nat) : List Bool := [i == 0,i == 1,i == 2,i == 3,i == 4,i == 5,i == 6,i == 7,i == 8,i == 9,i == 10,i == 11,i == 12,i == 13]
def spMarks (cs : List Addr) : Sp := fun vs H Q _ => ∃ (e C : Addr) (i : Nat),vs = [.ref e] ∧ cs[i]? = some C ∧ H e = some (excO C e) ∧ ∀ (l : Addr) (H' : Hp),Same H H' → H' l = some (.lst ((marks i).map V.bl)) → Q (.ref l) H'
def spTrue : Sp := fun vs H Q _ => vs = [] ∧ ∀ H',Same H H' → Q (.bl true) H'
theorem S_law_marks : FnScope ["caught","some"] ["caught"] (defScope (top 25)) := ⟨rfl,rfl,rfl,by decide +kernel,rfl,by decide +kernel,by decide +kernel⟩
theorem fn_law_marks {c0 c1 c2 c3 c4 c5 c6 c7 c8 c9 c10 c11 c12 c13 c14 : Addr} (D_law_marks : Df K mg "_law_marks" (top 25)) (O_NoRatio : ExcC K mg "NoRatio" c0) (O_NoLine : ExcC K mg "NoLine" c1) (O_NoPlace : ExcC K mg "NoPlace" c2) (O_NoWay : ExcC K mg "NoWay" c3) (O_NoWalk : ExcC K mg "NoWalk" c4) (O_NoFence : ExcC K mg "NoFence" c5) (O_NoSquare : ExcC K mg "NoSquare" c6) (O_NoLines : ExcC K mg "NoLines" c7) (O_NoText : ExcC K mg "NoText" c8) (O_NoName : ExcC K mg "NoName" c9) (O_Twice : ExcC K mg "Twice" c10) (O_TooMany : ExcC K mg "TooMany" c11) (O_NoRow : ExcC K mg "NoRow" c12) (O_NoDeed : ExcC K mg "NoDeed" c13) (O_LeashError : ExcC K mg "LeashError" c14) (cl : Cl K mg [c0,c1,c2,c3,c4,c5,c6,c7,c8,c9,c10,c11,c12,c13,c14]) (T : Txt mg) : Fn P w K mg base "_law_marks" ["caught"] 1 (spMarks [c0,c1,c2,c3,c4,c5,c6,c7,c8,c9,c10,c11,c12,c13,c14]) := by
  refine D_law_marks.fn S_law_marks (fun _ _ _ _ _ _ us hl => match us,hl with | [_],_ => rfl) (fun vs H Q E h => ?_) (fun f cdv A outer s H vs Q E hr h => ?_)
  · obtain ⟨e,C,i,rfl,_⟩ := h
    rfl
  · obtain ⟨e,C,i,rfl,hi,he,q⟩ := h
    have IE : CallR (cxOf CX0 P w K mg base ["caught","some"] "_law_marks" (defScope (top 25)) f cdv A outer s H E).nox (.builtin "isinstance") (rIsEM K (fun C => C ∈ [c0,c1,c2,c3,c4,c5,c6,c7,c8,c9,c10,c11,c12,c13,c14])) := call_isexcM fun C hC => ⟨cl.exc C hC,cl.f C hC⟩
    have hC : C ∈ [c0,c1,c2,c3,c4,c5,c6,c7,c8,c9,c10,c11,c12,c13,c14] := List.mem_of_getElem? hi
    refine ⟨_,(pss_cons (ps_set (i := 1) S_law_marks.nd rfl (Or.inl rfl) (pe_lstA (pa_cons (pe_callB (IE) (by rfl) T.z_isinstance bt_isinstance (pa_cons (pv 0) (pa_cons (pe_glob (v := .ref _) (by rfl) O_NoRatio.bound rfl) pa_nil))) (pa_cons (pe_callB (IE) (by rfl) T.z_isinstance bt_isinstance (pa_cons (pv 0) (pa_cons (pe_glob (v := .ref _) (by rfl) O_NoLine.bound rfl) pa_nil))) (pa_cons (pe_callB (IE) (by rfl) T.z_isinstance bt_isinstance (pa_cons (pv 0) (pa_cons (pe_glob (v := .ref _) (by rfl) O_NoPlace.bound rfl) pa_nil))) pa_nil))))) (pss_cons (ps_set (i := 1) S_law_marks.nd rfl (Or.inl rfl) (pe_op op_catA (pv 1) (pe_lstA (pa_cons (pe_callB (IE) (by rfl) T.z_isinstance bt_isinstance (pa_cons (pv 0) (pa_cons (pe_glob (v := .ref _) (by rfl) O_NoWay.bound rfl) pa_nil))) (pa_cons (pe_callB (IE) (by rfl) T.z_isinstance bt_isinstance (pa_cons (pv 0) (pa_cons (pe_glob (v := .ref _) (by rfl) O_NoWalk.bound rfl) pa_nil))) (pa_cons (pe_callB (IE) (by rfl) T.z_isinstance bt_isinstance (pa_cons (pv 0) (pa_cons (pe_glob (v := .ref _) (by rfl) O_NoFence.bound rfl) pa_nil))) pa_nil)))))) (pss_cons (ps_set (i := 1) S_law_marks.nd rfl (Or.inl rfl) (pe_op op_catA (pv 1) (pe_lstA (pa_cons (pe_callB (IE) (by rfl) T.z_isinstance bt_isinstance (pa_cons (pv 0) (pa_cons (pe_glob (v := .ref _) (by rfl) O_NoSquare.bound rfl) pa_nil))) (pa_cons (pe_callB (IE) (by rfl) T.z_isinstance bt_isinstance (pa_cons (pv 0) (pa_cons (pe_glob (v := .ref _) (by rfl) O_NoLines.bound rfl) pa_nil))) (pa_cons (pe_callB (IE) (by rfl) T.z_isinstance bt_isinstance (pa_cons (pv 0) (pa_cons (pe_glob (v := .ref _) (by rfl) O_NoText.bound rfl) pa_nil))) pa_nil)))))) (pss_cons (ps_set (i := 1) S_law_marks.nd rfl (Or.inl rfl) (pe_op op_catA (pv 1) (pe_lstA (pa_cons (pe_callB (IE) (by rfl) T.z_isinstance bt_isinstance (pa_cons (pv 0) (pa_cons (pe_glob (v := .ref _) (by rfl) O_NoName.bound rfl) pa_nil))) (pa_cons (pe_callB (IE) (by rfl) T.z_isinstance bt_isinstance (pa_cons (pv 0) (pa_cons (pe_glob (v := .ref _) (by rfl) O_Twice.bound rfl) pa_nil))) (pa_cons (pe_callB (IE) (by rfl) T.z_isinstance bt_isinstance (pa_cons (pv 0) (pa_cons (pe_glob (v := .ref _) (by rfl) O_TooMany.bound rfl) pa_nil))) pa_nil)))))) (pss_one (ps_ret (pe_op op_catA (pv 1) (pe_lstA (pa_cons (pe_callB (IE) (by rfl) T.z_isinstance bt_isinstance (pa_cons (pv 0) (pa_cons (pe_glob (v := .ref _) (by rfl) O_NoRow.bound rfl) pa_nil))) (pa_cons (pe_callB (IE) (by rfl) T.z_isinstance bt_isinstance (pa_cons (pv 0) (pa_cons (pe_glob (v := .ref _) (by rfl) O_NoDeed.bound rfl) pa_nil))) pa_nil)))))))))),?_⟩
    refine ⟨_,rfl,C,hC,e,_,_,rfl,he,.inl ⟨_,rfl,cl.m hi (j := 0) rfl (by decide)⟩,_,rfl,C,hC,e,_,_,rfl,he,.inl ⟨_,rfl,cl.m hi (j := 1) rfl (by decide)⟩,_,rfl,C,hC,e,_,_,rfl,he,.inl ⟨_,rfl,cl.m hi (j := 2) rfl (by decide)⟩,sz (by simp),fun l1 H1 s1 f1 n1 => ?_⟩
    have e1 := s1 _ _ he
    refine ⟨_,rfl,_,rfl,C,hC,e,_,_,rfl,e1,.inl ⟨_,rfl,cl.m hi (j := 3) rfl (by decide)⟩,_,rfl,C,hC,e,_,_,rfl,e1,.inl ⟨_,rfl,cl.m hi (j := 4) rfl (by decide)⟩,_,rfl,C,hC,e,_,_,rfl,e1,.inl ⟨_,rfl,cl.m hi (j := 5) rfl (by decide)⟩,sz (by simp),fun l2 H2 s2 f2 n2 => ⟨l1,l2,_,_,rfl,rfl,s2 _ _ f1,f2,sz (by simp),fun l3 H3 s3 f3 n3 => ?_⟩⟩
    have e3 := s3 _ _ (s2 _ _ e1)
    have S3 : Same H H3 := s1.trans (s2.trans s3)
    refine ⟨_,rfl,_,rfl,C,hC,e,_,_,rfl,e3,.inl ⟨_,rfl,cl.m hi (j := 6) rfl (by decide)⟩,_,rfl,C,hC,e,_,_,rfl,e3,.inl ⟨_,rfl,cl.m hi (j := 7) rfl (by decide)⟩,_,rfl,C,hC,e,_,_,rfl,e3,.inl ⟨_,rfl,cl.m hi (j := 8) rfl (by decide)⟩,sz (by simp),fun l4 H4 s4 f4 n4 => ⟨l3,l4,_,_,rfl,rfl,s4 _ _ f3,f4,sz (by simp),fun l5 H5 s5 f5 n5 => ?_⟩⟩
    have e5 := s5 _ _ (s4 _ _ e3)
    have S5 : Same H H5 := S3.trans (s4.trans s5)
    refine ⟨_,rfl,_,rfl,C,hC,e,_,_,rfl,e5,.inl ⟨_,rfl,cl.m hi (j := 9) rfl (by decide)⟩,_,rfl,C,hC,e,_,_,rfl,e5,.inl ⟨_,rfl,cl.m hi (j := 10) rfl (by decide)⟩,_,rfl,C,hC,e,_,_,rfl,e5,.inl ⟨_,rfl,cl.m hi (j := 11) rfl (by decide)⟩,sz (by simp),fun l6 H6 s6 f6 n6 => ⟨l5,l6,_,_,rfl,rfl,s6 _ _ f5,f6,sz (by simp),fun l7 H7 s7 f7 n7 => ?_⟩⟩
    have e7 := s7 _ _ (s6 _ _ e5)
    have S7 : Same H H7 := S5.trans (s6.trans s7)
    refine ⟨_,rfl,_,rfl,C,hC,e,_,_,rfl,e7,.inl ⟨_,rfl,cl.m hi (j := 12) rfl (by decide)⟩,_,rfl,C,hC,e,_,_,rfl,e7,.inl ⟨_,rfl,cl.m hi (j := 13) rfl (by decide)⟩,sz (by simp),fun l8 H8 s8 f8 n8 => ⟨l7,l8,_,_,rfl,rfl,s8 _ _ f7,f8,sz (by simp),fun l9 H9 s9 f9 n9 => ?_⟩⟩
    have e9 := s9 _ _ (s8 _ _ e7)
    have S9 : Same H H9 := S7.trans (s8.trans s9)
    exact q l9 H9 S9 f9
theorem at_nat {α : Type} {xs : List α} {i : Nat} {x : α} (h : xs[i]? = some x) : atI xs (0 + (i : Int)) = some x := by
  have hi := (List.getElem?_eq_some_iff.mp h).1
  unfold atI ixN
  rw [if_pos (by omega),if_pos (by omega),show (0 + (i : Int)).toNat = i by omega]
  exact h
theorem marks_at (i : Nat) : ∀ j,j < 14 → (marks i)[j]? = some (i == j)
  | 0,_ => rfl | 1,_ => rfl | 2,_ => rfl | 3,_ => rfl | 4,_ => rfl | 5,_ => rfl | 6,_ => rfl | 7,_ => rfl | 8,_ => rfl | 9,_ => rfl | 10,_ => rfl | 11,_ => rfl | 12,_ => rfl | 13,_ => rfl
  | n + 14,h => absurd h (by omega)
theorem bls_rp {H : Hp} {l : Addr} {bs : List Bool} (e : H l = some (.lst (bs.map V.bl))) : Rp H 9 (.ref l) (.lst (bs.map D.bl)) := .lst e (by simp) fun j x d a b => by
  rw [List.getElem?_map] at a b
  obtain ⟨q,hq,rfl⟩ := Option.map_eq_some_iff.mp a
  rw [hq] at b
  cases b
  exact .bl
theorem row_of {i : Nat} {ys : List V} (hl : ys.length = 14) (hr : ∀ (j : Nat) y,ys[j]? = some y → y = .bl (decide (V.int (0 + (j : Int)) = V.int (0 + (i : Int))))) : ys = (marks i).map V.bl := by
  apply List.ext_getElem?
  intro j
  rw [List.getElem?_map]
  by_cases hj : j < 14
  · have hy : j < ys.length := by omega
    rw [List.getElem?_eq_getElem hy,hr j _ (List.getElem?_eq_getElem hy),marks_at i j hj]
    show some (V.bl _) = some (V.bl _)
    congr 2
    by_cases e : i = j
    · subst e
      simp
    · rw [beq_eq_false_iff_ne.mpr e,decide_eq_false_iff_not]
      intro z
      injection z with z
      omega
  · rw [List.getElem?_eq_none (by omega),List.getElem?_eq_none (by show 14 ≤ j; omega)]
    rfl
def cmpScope (s : Stmt) : Scope := match s with
  | .If (.Compare _ _ [.ListComp _ _ sc _] _) _ _ _ => sc
  | _ => { kind := .function,names := [],isGenerator := false,isCoroutine := false }
theorem S_law_apart : FnScope ["made","k"] [] (defScope (top 26)) := ⟨rfl,rfl,rfl,by decide +kernel,rfl,by decide +kernel,by decide +kernel⟩
theorem fn_law_apart {c0 c1 c2 c3 c4 c5 c6 c7 c8 c9 c10 c11 c12 c13 c14 : Addr} (D_law_apart : Df K mg "_law_apart" (top 26)) (O_NoRatio : ExcC K mg "NoRatio" c0) (O_NoLine : ExcC K mg "NoLine" c1) (O_NoPlace : ExcC K mg "NoPlace" c2) (O_NoWay : ExcC K mg "NoWay" c3) (O_NoWalk : ExcC K mg "NoWalk" c4) (O_NoFence : ExcC K mg "NoFence" c5) (O_NoSquare : ExcC K mg "NoSquare" c6) (O_NoLines : ExcC K mg "NoLines" c7) (O_NoText : ExcC K mg "NoText" c8) (O_NoName : ExcC K mg "NoName" c9) (O_Twice : ExcC K mg "Twice" c10) (O_TooMany : ExcC K mg "TooMany" c11) (O_NoRow : ExcC K mg "NoRow" c12) (O_NoDeed : ExcC K mg "NoDeed" c13) (O_LeashError : ExcC K mg "LeashError" c14) (cl : Cl K mg [c0,c1,c2,c3,c4,c5,c6,c7,c8,c9,c10,c11,c12,c13,c14]) (F_law_marks : Fn P w K mg base "_law_marks" ["caught"] 1 (spMarks [c0,c1,c2,c3,c4,c5,c6,c7,c8,c9,c10,c11,c12,c13,c14])) (T : Txt mg) : Fn P w K mg base "_law_apart" [] 2 spTrue := by
  refine D_law_apart.fn S_law_apart (fun _ _ _ _ _ _ us hl => match us,hl with | [],_ => rfl) (fun vs H Q E h => ?_) (fun f cdv A outer s H vs Q E hr h => ?_)
  · obtain ⟨rfl,_⟩ := h
    rfl
  · obtain ⟨rfl,q⟩ := h
    have CN : CompN (cxOf CX0 P w K mg base ["made","k"] "_law_apart" (defScope (top 26)) f cdv A outer s H E).nox (cmpScope ((forBody ((defBody (top 26)).getD 2 (.Pass ⟨0,0,0,0⟩))).getD 1 (.Pass ⟨0,0,0,0⟩))) [("k",s.heap.objs.size + 1)] "j" [("k",1)] :=
      ⟨by rfl,rfl,by decide +kernel,by decide +kernel,rfl,(fun p hp => by rw [List.mem_singleton.mp hp]; rfl),by rfl,by decide +kernel,(fun p hp => by rw [List.mem_singleton.mp hp]; exact ⟨rfl,rfl,.inr (.inl rfl),rfl,rfl⟩),⟨rfl,rfl⟩,rfl⟩
    have IE : CallR (cxOf CX0 P w K mg base ["made","k"] "_law_apart" (defScope (top 26)) f cdv A outer s H E).nox (.builtin "isinstance") (rIsEM K (fun C => C ∈ [c0,c1,c2,c3,c4,c5,c6,c7,c8,c9,c10,c11,c12,c13,c14])) := call_isexcM fun C hC => ⟨cl.exc C hC,cl.f C hC⟩
    refine ⟨_,(@pss_cons _ _ _ _ _ (@ps_set _ _ 0 _ _ _ _ S_law_apart.nd rfl (Or.inl rfl) (@pe_lstA _ _ _ _ (@pa_cons _ _ _ _ _ (pe_newE O_NoRatio (by rfl) rfl) (@pa_cons _ _ _ _ _ (pe_newE O_NoLine (by rfl) rfl) (@pa_cons _ _ _ _ _ (pe_newE O_NoPlace (by rfl) rfl) (@pa_cons _ _ _ _ _ (pe_newE O_NoWay (by rfl) rfl) (@pa_cons _ _ _ _ _ (pe_newE O_NoWalk (by rfl) rfl) (@pa_cons _ _ _ _ _ (pe_newE O_NoFence (by rfl) rfl) (@pa_cons _ _ _ _ _ (pe_newE O_NoSquare (by rfl) rfl) (@pa_cons _ _ _ _ _ (pe_newE O_NoLines (by rfl) rfl) (@pa_cons _ _ _ _ _ (pe_newE O_NoText (by rfl) rfl) pa_nil (by rfl)) (by rfl)) (by rfl)) (by rfl)) (by rfl)) (by rfl)) (by rfl)) (by rfl)) (by rfl))) (by rfl) (by first | exact .inl rfl | exact .inr rfl | assumption)) (pss_cons (ps_set (i := 0) S_law_apart.nd rfl (Or.inl rfl) (pe_op op_catA (pv 0) (pe_lstA (pa_cons (pe_newE O_NoName (by rfl) rfl) (pa_cons (pe_newE O_Twice (by rfl) rfl) (pa_cons (pe_newE O_TooMany (by rfl) rfl) (pa_cons (pe_newE O_NoRow (by rfl) rfl) (pa_cons (pe_newE O_NoDeed (by rfl) rfl) pa_nil)))))))) (pss_cons (ps_for PassesOwn.never rfl (pi_range1 rfl T.z_range (pa_cons (pe_callB call_len_seq (by rfl) T.z_len bt_len (pa_cons (pv 0) pa_nil)) pa_nil)) (pg_name (i := 1) S_law_apart.nd rfl (Or.inr rfl)) (pss_cons (ps_if (pw_or (pt_not (pt_val (pe_callB (IE) (by rfl) T.z_isinstance bt_isinstance (pa_cons (pe_ix ix_list (pv 0) (pv 1) (fun _ _ => rfl)) (pa_cons (pe_glob (v := .ref _) (by rfl) O_LeashError.bound rfl) pa_nil))))) (pw_or1 (pt_not (pt_val (pe_callB (IE) (by rfl) T.z_isinstance bt_isinstance (pa_cons (pe_ix ix_list (pv 0) (pv 1) (fun _ _ => rfl)) (pa_cons (pe_ty T.z_ValueError bt_ValueError) pa_nil))))))).pt (pss_one (ps_ret pe_bl)) pss_nil) (pss_one (ps_if (pt_cmpR (op_neD hr.units10) (pe_fn F_law_marks (hr.mono (by decide)) (by rfl) (pa_cons (pe_ix ix_list (pv 0) (pv 1) (fun _ _ => rfl)) pa_nil)) (pe_compA rfl CN (pi_range1 rfl T.z_range (pa_cons (pe_callB call_len_seq (by rfl) T.z_len bt_len (pa_cons (pv 0) pa_nil)) pa_nil)) (fun fp s₀ H₀ => (pe_cmpR op_eq (pv 0) (pv 1) (nomark _)))) (nomark _)) (pss_one (ps_ret pe_bl)) pss_nil)))) (pss_one (ps_ret (pe_not (pe_callB (call_any rfl) (by rfl) T.z_any bt_any (pa_cons (pe_fn F_law_marks (hr.mono (by decide)) (by rfl) (pa_cons (pe_newE O_LeashError (by rfl) rfl) pa_nil)) pa_nil)))))))),?_⟩
    refine fun p0 H0 t0 f0 m0 => fun p1 H1 t1 f1 m1 => fun p2 H2 t2 f2 m2 => fun p3 H3 t3 f3 m3 => fun p4 H4 t4 f4 m4 => fun p5 H5 t5 f5 m5 => fun p6 H6 t6 f6 m6 => fun p7 H7 t7 f7 m7 => fun p8 H8 t8 f8 m8 => ⟨sz (by simp),fun l1 Ha sa fa na => ?_⟩
    refine ⟨_,rfl,fun p9 H9 t9 f9 m9 => fun p10 H10 t10 f10 m10 => fun p11 H11 t11 f11 m11 => fun p12 H12 t12 f12 m12 => fun p13 H13 t13 f13 m13 => ⟨sz (by simp),fun l2 Hb sb fb nb => ?_⟩⟩
    have X13 : Same H13 Hb := sb
    have X12 : Same H12 Hb := t13.trans X13
    have X11 : Same H11 Hb := t12.trans X12
    have X10 : Same H10 Hb := t11.trans X11
    have X9 : Same H9 Hb := t10.trans X10
    have Xa : Same Ha Hb := t9.trans X9
    have X8 : Same H8 Hb := sa.trans Xa
    have X7 : Same H7 Hb := t8.trans X8
    have X6 : Same H6 Hb := t7.trans X7
    have X5 : Same H5 Hb := t6.trans X6
    have X4 : Same H4 Hb := t5.trans X5
    have X3 : Same H3 Hb := t4.trans X4
    have X2 : Same H2 Hb := t3.trans X3
    have X1 : Same H1 Hb := t2.trans X2
    have X0 : Same H0 Hb := t1.trans X1
    refine ⟨l1,l2,_,_,rfl,rfl,Xa _ _ fa,fb,sz (by simp),fun l Hc sc fc nc => ?_⟩
    have S : Same H Hc := t0.trans (X0.trans sc)
    have fc : Hc l = some (.lst ([p0,p1,p2,p3,p4,p5,p6,p7,p8,p9,p10,p11,p12,p13].map V.ref)) := fc
    have hex : ∀ (k : Nat) p,[p0,p1,p2,p3,p4,p5,p6,p7,p8,p9,p10,p11,p12,p13][k]? = some p → ∃ C,[c0,c1,c2,c3,c4,c5,c6,c7,c8,c9,c10,c11,c12,c13,c14][k]? = some C ∧ Hc p = some (excO C p) := fun k p hk => by
      match k,hk with
      | 0,hk => cases hk; exact ⟨c0,rfl,sc _ _ (X0 _ _ f0)⟩
      | 1,hk => cases hk; exact ⟨c1,rfl,sc _ _ (X1 _ _ f1)⟩
      | 2,hk => cases hk; exact ⟨c2,rfl,sc _ _ (X2 _ _ f2)⟩
      | 3,hk => cases hk; exact ⟨c3,rfl,sc _ _ (X3 _ _ f3)⟩
      | 4,hk => cases hk; exact ⟨c4,rfl,sc _ _ (X4 _ _ f4)⟩
      | 5,hk => cases hk; exact ⟨c5,rfl,sc _ _ (X5 _ _ f5)⟩
      | 6,hk => cases hk; exact ⟨c6,rfl,sc _ _ (X6 _ _ f6)⟩
      | 7,hk => cases hk; exact ⟨c7,rfl,sc _ _ (X7 _ _ f7)⟩
      | 8,hk => cases hk; exact ⟨c8,rfl,sc _ _ (X8 _ _ f8)⟩
      | 9,hk => cases hk; exact ⟨c9,rfl,sc _ _ (X9 _ _ f9)⟩
      | 10,hk => cases hk; exact ⟨c10,rfl,sc _ _ (X10 _ _ f10)⟩
      | 11,hk => cases hk; exact ⟨c11,rfl,sc _ _ (X11 _ _ f11)⟩
      | 12,hk => cases hk; exact ⟨c12,rfl,sc _ _ (X12 _ _ f12)⟩
      | 13,hk => cases hk; exact ⟨c13,rfl,sc _ _ (X13 _ _ f13)⟩
      | n + 14,hk => simp at hk
    generalize hps : [p0,p1,p2,p3,p4,p5,p6,p7,p8,p9,p10,p11,p12,p13] = ps at fc hex
    have hpl : ps.length = 14 := by rw [← hps]; rfl
    have hpm : (((ps.map V.ref).length : Nat) : Int) = 14 := by rw [List.length_map,hpl]; rfl
    refine ⟨_,rfl,l,_,rfl,.inl (SqL.of fc),14,by rw [hpm],by decide,by decide,for_range (n := 14) (lo := 0) (fun i σ H' => ∃ z,σ = [some (.ref l),z] ∧ Same Hc H') ⟨_,rfl,Same.refl _⟩ ?_ ?_⟩
    · rintro i σ H4 hi ⟨z,rfl,s4⟩
      have hil : i < ps.length := by omega
      obtain ⟨C,hC',he'⟩ := hex i ps[i] (List.getElem?_eq_getElem hil)
      generalize hp : ps[i] = p at he'
      have hat : atI (ps.map V.ref) (0 + (i : Int)) = some (.ref p) := at_nat (by rw [List.getElem?_map,List.getElem?_eq_getElem hil,hp]; rfl)
      have he := s4 _ _ he'
      have hC : C ∈ [c0,c1,c2,c3,c4,c5,c6,c7,c8,c9,c10,c11,c12,c13,c14] := List.mem_of_getElem? hC'
      have f4 := s4 _ _ fc
      refine ⟨_,rfl,_,rfl,l,_,_,_,rfl,rfl,SqL.of f4,hat,C,hC,p,_,_,rfl,he,.inl ⟨_,rfl,cl.mx i 14 C c14 hC' rfl⟩,_,rfl,iteFalse (by simp) ?_⟩
      refine ⟨_,rfl,_,rfl,l,_,_,_,rfl,rfl,SqL.of f4,hat,C,hC,p,_,_,rfl,he,.inr (.inl ⟨_,rfl,cl.v C hC⟩),_,rfl,iteFalse (by decide) ?_⟩
      refine ⟨_,rfl,_,rfl,l,_,_,_,rfl,rfl,SqL.of f4,hat,p,C,i,rfl,hC',he,fun lm H5 s5 f5 => ?_⟩
      refine ⟨_,rfl,l,_,rfl,.inl (SqL.of (s5 _ _ f4)),14,by rw [hpm],by decide,by decide,comp_rR (n := 14) (lo := 0) (by decide) (fun j v H' => v = .bl (decide (V.int (0 + (j : Int)) = V.int (0 + (i : Int))))) (fun i v H H' _ z => z) ?_ ?_⟩
      · intro j H6 Kc hj s6 kk
        exact ⟨_,rfl,_,rfl,rfl,kk _ _ (Same.refl _) rfl⟩
      · intro l6 ys H6 nl6 s6 f6 hly hr
        rw [row_of hly hr] at f6
        refine ⟨_,_,bls_rp (s6 _ _ f5),bls_rp f6,_,rfl,iteFalse (by rw [deq_self]; rfl) ?_⟩
        exact ⟨_,rfl,s4.trans (s5.trans s6)⟩
    · rintro σ H4 ⟨z,rfl,s4⟩
      refine fun pe He se fe ne => ⟨pe,c14,14,rfl,rfl,fe,fun lm Hm sm fm => ⟨lm,marks 14,rfl,SqL.of fm,_,rfl,?_⟩⟩
      exact q Hm (S.trans (s4.trans (se.trans sm)))
def spRatX (C : Addr) : Sp := fun vs H Q E => ∃ (x y : V) (tx ty : String),vs = [x,y] ∧ Kn H x tx ∧ Kn H y ty ∧
  ((((∀ a,x ≠ .int a) ∨ (∀ b,y ≠ .int b) ∨ y = .int 0) ∧ E (.ref C) none H) ∨
   ∃ a b : Int,x = .int a ∧ y = .int b ∧ b ≠ 0 ∧ (bits a ≤ 2000 ∧ bits b ≤ 2000) ∧ ∀ (p : Addr) (t u : Int) (H' : Hp),Frac a b t u → Same H H' → H' p = some (.tup [.int t,.int u]) → H p = none → Q (.ref p) H')
def spOverX (C : Addr) : Sp := fun vs H Q E => ∃ (p q : Addr) (a b : Int),vs = [.ref p,.ref q] ∧ H p = some (.tup [.int a,.int b]) ∧ H q = some (.tup [.int 0,.int 1]) ∧ E (.ref C) none H
structure Odd (H : Hp) (v : V) : Prop where
  kn : ∃ t,Kn H v t
  no : ∀ a,v ≠ .int a
theorem Odd.mono {H H' : Hp} {v : V} (o : Odd H v) (s : Same H H') : Odd H' v := ⟨let ⟨t,k⟩ := o.kn; ⟨t,k.mono s⟩,o.no⟩
def spOdd : Sp := fun vs H Q _ => ∃ far n : Int,vs = [.int far,.int n] ∧ ∀ (v : V) (H' : Hp),Same H H' → Odd H' v → Q v H'
def spAlone (C : Addr) : Sp := fun vs H Q _ => ∃ e : Addr,vs = [.ref e] ∧ H e = some (excO C e) ∧ ∀ H',Same H H' → Q (.bl true) H'
def spRefX (C : Addr) : Sp := fun vs H Q _ => ∃ (x y : V) (n : Int),vs = [x,y,.int n] ∧
  ((n = 0 ∧ Odd H x) ∨ (n = 1 ∧ (∃ t,Kn H x t) ∧ (∃ t,Kn H y t) ∧ ((∀ a,x ≠ .int a) ∨ (∀ b,y ≠ .int b) ∨ y = .int 0)) ∨ (n = 2 ∧ ∃ (p q : Addr) (a b : Int),x = .ref p ∧ y = .ref q ∧ H p = some (.tup [.int a,.int b]) ∧ H q = some (.tup [.int 0,.int 1]))) ∧ ∀ H',Same H H' → Q (.bl true) H'
theorem int_is {H : Hp} {x : V} {t : String} (k : Kn H x t) : (∃ a,x = .int a ∧ isIntV x = true) ∨ ((∀ a,x ≠ .int a) ∧ isIntV x = false) := by
  rcases Kn.cases_int k with ⟨a,rfl,_⟩ | ⟨h1,h2⟩
  · exact .inl ⟨a,rfl,rfl⟩
  · exact .inr ⟨h1,h2⟩
theorem S_ratio : FnScope ["top","bottom","divisor"] ["top","bottom"] (defScope (top 19)) := ⟨rfl,rfl,rfl,by decide +kernel,rfl,by decide +kernel,by decide +kernel⟩
theorem fn_ratio {C : Addr} (D_ratio : DfD K mg "ratio" (top 19) [.int 1]) (O_NoRatio : ExcC K mg "NoRatio" C) (F_is_whole : Fn P w K mg base "is_whole" ["thing"] 1 spWhole) (F_common_divisor : Fn P w K mg base "common_divisor" ["one","other"] 1 spGcd) : Fx P w K mg base "ratio" ["top","bottom"] 2 [.int 1] (spRatX C) := by
  refine D_ratio.fx S_ratio (fun T kV doc pm an cdv ct us its oT n s hv hl ho hs => ?_) (fun T kV doc pm an cdv ct us its oT n s hv hl ho hs => ?_) (fun vs H Q E h => ?_) (fun f cdv A outer s H vs Q E hr h => ?_)
  · obtain ⟨u,rfl,_⟩ := vals1 hv
    match us,hl with
    | [_,_],_ => exact BindsTo.of_defaults rfl ho hs rfl rfl
  · obtain ⟨u,rfl,_⟩ := vals1 hv
    have hl1 : us.length = 1 := by simpa using hl
    match us,hl1 with
    | [_],_ => exact BindsTo.of_defaults rfl ho hs rfl rfl
  · obtain ⟨x,y,tx,ty,rfl,_⟩ := h
    rfl
  · obtain ⟨x,y,tx,ty,rfl,kx,ky,h⟩ := h
    refine ⟨_,(pss_cons (ps_if (pw_or (pt_not (pt_val (pe_fn F_is_whole (hr.mono (by decide)) (by rfl) (pa_cons (pv 0) pa_nil)))) (pw_or (pt_not (pt_val (pe_fn F_is_whole (hr.mono (by decide)) (by rfl) (pa_cons (pv 1) pa_nil)))) (pw_or1 (pt_cmpR op_eq (pv 1) pe_int (nomark _))))).pt (pss_one (ps_raise O_NoRatio (by rfl))) pss_nil) (pss_cons (ps_set (i := 2) S_ratio.nd rfl (Or.inl rfl) (pe_fn F_common_divisor (hr.mono (by decide)) (by rfl) (pa_cons (pv 0) (pa_cons (pv 1) pa_nil)))) (pss_cons (ps_if (pt_cmpR op_lt (pv 1) pe_int (nomark _)) (pss_one (ps_set (i := 2) S_ratio.nd rfl (Or.inl rfl) (pe_un un_neg (pv 2)))) pss_nil) (pss_one (ps_ret (pe_tupA (pa_cons (pe_op op_fdivZ (pv 0) (pv 2)) (pa_cons (pe_op op_fdivZ (pv 1) (pv 2)) pa_nil)))))))),?_⟩
    refine ⟨_,rfl,x,tx,rfl,kx,_,rfl,?_⟩
    have no : ((∀ a,x ≠ .int a) ∨ (∀ b,y ≠ .int b) ∨ y = .int 0) → E (.ref C) none H := fun z => by
      rcases h with ⟨_,k⟩ | ⟨a,b,rfl,rfl,hb,_⟩
      · exact k
      · rcases z with z | z | z
        · exact absurd rfl (z a)
        · exact absurd rfl (z b)
        · cases z
          exact absurd rfl hb
    rcases int_is kx with ⟨a,rfl,ex⟩ | ⟨nx,ex⟩
    rotate_left
    · rw [ex]
      exact iteT (no (.inl nx))
    rw [ex]
    refine iteF ?_
    refine ⟨_,rfl,y,ty,rfl,ky,_,rfl,?_⟩
    rcases int_is ky with ⟨b,rfl,ey⟩ | ⟨ny,ey⟩
    rotate_left
    · rw [ey]
      exact iteT (no (.inr (.inl ny)))
    rw [ey]
    refine iteF ?_
    refine ⟨_,rfl,rfl,_,rfl,ite3 (fun hc => ?_) (fun hc => ?_)⟩
    · have : b = 0 := by simpa using hc
      exact no (.inr (.inr (by rw [this])))
    have hb : b ≠ 0 := by simpa using hc
    rcases h with ⟨z,_⟩ | ⟨a',b',e1,e2,_,⟨ba,bb⟩,k1⟩
    · rcases z with z | z | z
      · exact absurd rfl (z a)
      · exact absurd rfl (z b)
      · cases z
        exact absurd rfl hb
    cases e1
    cases e2
    have hg := gcd_pos (a := a) (b := b) hb
    have bg : bits (Int.gcd a b : Int) ≤ 8000 := bits_le (gcd_bits2 hb bb) (by decide)
    refine ⟨_,rfl,_,rfl,a,b,rfl,?_⟩
    refine ⟨_,rfl,_,_,rfl,rfl,_,rfl,ite3 (fun hd => ?_) (fun hd => ?_)⟩
    · have hlt : b < 0 := by simpa using hd
      refine ⟨_,rfl,_,rfl,?_⟩
      refine ⟨_,rfl,_,rfl,_,_,rfl,rfl,⟨by omega,bits_neg bg⟩,_,rfl,_,rfl,_,_,rfl,rfl,⟨by omega,bits_neg bg⟩,sz (by simp),fun p H2 s2 f2 n2 => ?_⟩
      exact k1 p _ _ H2 (frac_fdiv hb _ (by rw [if_pos hlt])) s2 f2 n2
    · have hlt : ¬ b < 0 := by simpa using hd
      refine ⟨_,rfl,_,rfl,_,_,rfl,rfl,⟨by omega,bg⟩,_,rfl,_,rfl,_,_,rfl,rfl,⟨by omega,bg⟩,sz (by simp),fun p H2 s2 f2 n2 => ?_⟩
      exact k1 p _ _ H2 (frac_fdiv hb _ (by rw [if_neg hlt])) s2 f2 n2
theorem S_over : FnScope ["a","b"] ["a","b"] (defScope (top 20)) := ⟨rfl,rfl,rfl,by decide +kernel,rfl,by decide +kernel,by decide +kernel⟩
theorem fn_over {C : Addr} (D_over : Df K mg "over" (top 20)) (F_ratio : Fx P w K mg base "ratio" ["top","bottom"] 2 [.int 1] (spRatX C)) : Fx P w K mg base "over" ["a","b"] 3 [] (spOverX C) := by
  refine D_over.fx S_over (fun _ _ _ _ _ _ us hl => match us,hl with | [_,_],_ => rfl) (fun vs H Q E h => ?_) (fun f cdv A outer s H vs Q E hr h => ?_)
  · obtain ⟨p,q,a,b,rfl,_⟩ := h
    rfl
  · obtain ⟨p,q,a,b,rfl,ep,eq,k⟩ := h
    refine ⟨_,(pss_one (ps_ret (pe_fx F_ratio (hr.mono (by decide)) (by rfl) (pa_cons (pe_op op_mulX (pe_ix ix_tup (pv 0) pe_int (fun _ _ => rfl)) (pe_ix ix_tup (pv 1) pe_int (fun _ _ => rfl))) (pa_cons (pe_op op_mulX (pe_ix ix_tup (pv 0) pe_int (fun _ _ => rfl)) (pe_ix ix_tup (pv 1) pe_int (fun _ _ => rfl))) pa_nil))))),?_⟩
    refine ⟨_,rfl,p,_,_,_,rfl,rfl,SqT.of ep,rfl,_,rfl,q,_,_,_,rfl,rfl,SqT.of eq,rfl,_,_,rfl,rfl,CM.r ⟨by decide,by decide⟩,?_⟩
    refine ⟨_,rfl,p,_,_,_,rfl,rfl,SqT.of ep,rfl,_,rfl,q,_,_,_,rfl,rfl,SqT.of eq,rfl,_,_,rfl,rfl,CM.r ⟨by decide,by decide⟩,?_⟩
    exact ⟨_,_,_,_,rfl,.int _,.int _,.inl ⟨.inr (.inr (by show V.int (b * 0) = _; rw [Int.mul_zero])),k⟩⟩
theorem S_law_alone : FnScope ["caught"] ["caught"] (defScope (top 27)) := ⟨rfl,rfl,rfl,by decide +kernel,rfl,by decide +kernel,by decide +kernel⟩
theorem fn_law_alone {c0 c1 c2 c3 c4 c5 c6 c7 c8 c9 c10 c11 c12 c13 c14 : Addr} (D_law_alone : Df K mg "_law_alone" (top 27)) (O_NoRatio : ExcC K mg "NoRatio" c0) (O_NoLine : ExcC K mg "NoLine" c1) (O_NoPlace : ExcC K mg "NoPlace" c2) (O_NoWay : ExcC K mg "NoWay" c3) (O_NoWalk : ExcC K mg "NoWalk" c4) (O_NoFence : ExcC K mg "NoFence" c5) (O_NoSquare : ExcC K mg "NoSquare" c6) (O_NoLines : ExcC K mg "NoLines" c7) (O_NoText : ExcC K mg "NoText" c8) (O_NoName : ExcC K mg "NoName" c9) (O_Twice : ExcC K mg "Twice" c10) (O_TooMany : ExcC K mg "TooMany" c11) (O_NoRow : ExcC K mg "NoRow" c12) (O_NoDeed : ExcC K mg "NoDeed" c13) (O_LeashError : ExcC K mg "LeashError" c14) (cl : Cl K mg [c0,c1,c2,c3,c4,c5,c6,c7,c8,c9,c10,c11,c12,c13,c14]) (f_NoRatio : ExcF K c0) (i_7 : PySem.W.kitAny K (.ref c0) ([c13,c5,c1,c7,c9,c2,c12].map Value.ref) = some false) (i_6 : PySem.W.kitAny K (.ref c0) ([c6,c8,c4,c3,c11,c10].map Value.ref) = some false) (T : Txt mg) : Fn P w K mg base "_law_alone" ["caught"] 1 (spAlone c0) := by
  refine D_law_alone.fn S_law_alone (fun _ _ _ _ _ _ us hl => match us,hl with | [_],_ => rfl) (fun vs H Q E h => ?_) (fun f cdv A outer s H vs Q E hr h => ?_)
  · obtain ⟨e,rfl,_⟩ := h
    rfl
  · obtain ⟨e,rfl,he,q⟩ := h
    refine ⟨_,(pss_cons (ps_if (pw_or (pt_not (pt_val (pe_callB (call_isexc O_NoRatio f_NoRatio) (by rfl) T.z_isinstance bt_isinstance (pa_cons (pv 0) (pa_cons (pe_glob (v := .ref _) (by rfl) O_NoRatio.bound rfl) pa_nil))))) (pw_or (pt_not (pt_val (pe_callB (call_isexc O_NoRatio f_NoRatio) (by rfl) T.z_isinstance bt_isinstance (pa_cons (pv 0) (pa_cons (pe_glob (v := .ref _) (by rfl) O_LeashError.bound rfl) pa_nil))))) (pw_or1 (pt_not (pt_val (pe_callB (call_isexc O_NoRatio f_NoRatio) (by rfl) T.z_isinstance bt_isinstance (pa_cons (pv 0) (pa_cons (pe_ty T.z_ValueError bt_ValueError) pa_nil)))))))).pt (pss_one (ps_ret pe_bl)) pss_nil) (pss_cons (ps_if (pt_val (pe_callB (call_isexc O_NoRatio f_NoRatio) (by rfl) T.z_isinstance bt_isinstance (pa_cons (pv 0) (pa_cons (@pe_tupA _ _ _ _ _ (@pa_cons _ _ _ _ _ (pe_glob (v := .ref _) (by rfl) O_NoDeed.bound rfl) (@pa_cons _ _ _ _ _ (pe_glob (v := .ref _) (by rfl) O_NoFence.bound rfl) (@pa_cons _ _ _ _ _ (pe_glob (v := .ref _) (by rfl) O_NoLine.bound rfl) (@pa_cons _ _ _ _ _ (pe_glob (v := .ref _) (by rfl) O_NoLines.bound rfl) (@pa_cons _ _ _ _ _ (pe_glob (v := .ref _) (by rfl) O_NoName.bound rfl) (@pa_cons _ _ _ _ _ (pe_glob (v := .ref _) (by rfl) O_NoPlace.bound rfl) (@pa_cons _ _ _ _ _ (pe_glob (v := .ref _) (by rfl) O_NoRow.bound rfl) pa_nil (by rfl)) (by rfl)) (by rfl)) (by rfl)) (by rfl)) (by rfl)) (by rfl))) pa_nil)))) (pss_one (ps_ret pe_bl)) pss_nil) (pss_one (ps_ret (pe_not (pe_callB (call_isexc O_NoRatio f_NoRatio) (by rfl) T.z_isinstance bt_isinstance (pa_cons (pv 0) (pa_cons (pe_tupA (pa_cons (pe_glob (v := .ref _) (by rfl) O_NoSquare.bound rfl) (pa_cons (pe_glob (v := .ref _) (by rfl) O_NoText.bound rfl) (pa_cons (pe_glob (v := .ref _) (by rfl) O_NoWalk.bound rfl) (pa_cons (pe_glob (v := .ref _) (by rfl) O_NoWay.bound rfl) (pa_cons (pe_glob (v := .ref _) (by rfl) O_TooMany.bound rfl) (pa_cons (pe_glob (v := .ref _) (by rfl) O_Twice.bound rfl) pa_nil))))))) pa_nil)))))))),?_⟩
    refine ⟨_,rfl,e,_,_,rfl,he,.inl ⟨_,rfl,cl.m (i := 0) (j := 0) rfl rfl (by decide)⟩,_,rfl,iteFalse (by decide) ?_⟩
    refine ⟨_,rfl,e,_,_,rfl,he,.inl ⟨_,rfl,cl.mx 0 14 c0 c14 rfl rfl⟩,_,rfl,iteFalse (by decide) ?_⟩
    refine ⟨_,rfl,e,_,_,rfl,he,.inr (.inl ⟨_,rfl,cl.v c0 (by simp)⟩),_,rfl,iteFalse (by decide) ?_⟩
    refine ⟨_,rfl,sz (by simp),fun pt H1 s1 f1 n1 => ⟨e,_,false,rfl,s1 _ _ he,.inr (.inr ⟨pt,[c13,c5,c1,c7,c9,c2,c12],rfl,f1,i_7⟩),_,rfl,iteFalse (by decide) ?_⟩⟩
    refine ⟨_,rfl,sz (by simp),fun pt2 H2 s2 f2 n2 => ⟨e,_,false,rfl,s2 _ _ (s1 _ _ he),.inr (.inr ⟨pt2,[c6,c8,c4,c3,c11,c10],rfl,f2,i_6⟩),_,rfl,?_⟩⟩
    exact q H2 (s1.trans s2)
theorem S_law_refused : FnScope ["top","bottom","way","caught","e"] ["top","bottom","way"] (defScope (top 28)) := ⟨rfl,rfl,rfl,by decide +kernel,rfl,by decide +kernel,by decide +kernel⟩
theorem fn_law_refused {c0 c14 : Addr} (D_law_refused : Df K mg "_law_refused" (top 28)) (O_LeashError : ExcC K mg "LeashError" c14) (m_NoRatio : PySem.W.exmOne K (.ref c0) (.ref c14) = some true) (F_law_alone : Fn P w K mg base "_law_alone" ["caught"] 1 (spAlone c0)) (F_ratio : Fx P w K mg base "ratio" ["top","bottom"] 2 [.int 1] (spRatX c0)) (F_over : Fx P w K mg base "over" ["a","b"] 3 [] (spOverX c0)) (T : Txt mg) : Fn P w K mg base "_law_refused" ["top","bottom","way"] 4 (spRefX c0) := by
  refine D_law_refused.fn S_law_refused (fun _ _ _ _ _ _ us hl => match us,hl with | [_,_,_],_ => rfl) (fun vs H Q E h => ?_) (fun f cdv A outer s H vs Q E hr h => ?_)
  · obtain ⟨x,y,n,rfl,_⟩ := h
    rfl
  · obtain ⟨x,y,n,rfl,h,q⟩ := h
    have R : ∃ u,PSs (cxOf CX0 P w K mg base ["top","bottom","way","caught","e"] "_law_refused" (defScope (top 28)) f cdv A outer s H E).nox ((defBody (top 28)).drop 2) u ∧ ∀ (e : Addr) (H1 : Hp) (z : Option V),Same H H1 → H1 e = some (excO c0 e) → u { nx := fun _ H' => Q .non H',rt := Q } [some x,some y,some (.int n),some (.ref e),z] H1 := by
      refine ⟨_,(pss_one (ps_ret (pe_fn F_law_alone (hr.mono (by decide)) (by rfl) (pa_cons (pv 3) pa_nil)))),fun e H1 z s1 f1 => ?_⟩
      exact ⟨_,rfl,e,rfl,f1,fun H2 s2 => q H2 (s1.trans s2)⟩
    obtain ⟨u,hu,ru⟩ := R
    refine ⟨_,(pss_cons (ps_set (i := 3) S_law_refused.nd rfl (Or.inl rfl) pe_non) (pss_cons (ps_try_as (i := 4) rfl rfl (pxs_one (px_if (pt_cmpR op_eq (pv 2) pe_int (nomark _)) (pxs_one (px_exprd F_ratio (hr.mono (by decide)) (by rfl) (pa_cons (pv 0) pa_nil))) (pxs_one (px_if (pt_cmpR op_eq (pv 2) pe_int (nomark _)) (pxs_one (px_expr F_ratio (hr.mono (by decide)) (by rfl) (pa_cons (pv 0) (pa_cons (pv 1) pa_nil)))) (pxs_one (px_expr F_over (hr.mono (by decide)) (by rfl) (pa_cons (pv 0) (pa_cons (pv 1) pa_nil)))))))) O_LeashError (by rfl) m_NoRatio rfl S_law_refused.nd rfl rfl (fun e => (pss_one (ps_set (i := 3) S_law_refused.nd rfl (Or.inl rfl) (pv 4))))) hu)),?_⟩
    have fin : ∀ (e : Addr) (he : H e = none) (z : Option V),u { nx := fun _ H' => Q .non H',rt := Q } [some x,some y,some (.int n),some (.ref e),z] (upd H e (excO c0 e)) := fun e he z => ru e _ z (Same.new he) upd_same
    refine ⟨_,rfl,rfl,_,rfl,ite3 (fun h1 => ?_) (fun h1 => ?_)⟩
    · have h1 : n = 0 := by simpa using h1
      subst h1
      rcases h with ⟨_,⟨t,kn⟩,no⟩ | ⟨z,_⟩ | ⟨z,_⟩
      · exact ⟨_,rfl,x,.int 1,t,"int",rfl,kn,.int 1,.inl ⟨.inl no,rfl,fun e he => ⟨_,rfl,fin e he _⟩⟩⟩
      · omega
      · omega
    have h1 : ¬ n = 0 := by simpa using h1
    refine ⟨_,rfl,rfl,_,rfl,ite3 (fun h2 => ?_) (fun h2 => ?_)⟩
    · have h2 : n = 1 := by simpa using h2
      subst h2
      rcases h with ⟨z,_⟩ | ⟨_,⟨t,kx⟩,⟨t2,ky⟩,no⟩ | ⟨z,_⟩
      · omega
      · exact ⟨_,rfl,_,rfl,x,y,t,t2,rfl,kx,ky,.inl ⟨no,rfl,fun e he => ⟨_,rfl,fin e he _⟩⟩⟩
      · omega
    have h2 : ¬ n = 1 := by simpa using h2
    rcases h with ⟨z,_⟩ | ⟨z,_⟩ | ⟨_,p',q',a,b,rfl,rfl,e1,e2⟩
    · omega
    · omega
    · exact ⟨_,rfl,_,rfl,p',q',a,b,rfl,e1,e2,rfl,fun e he => ⟨_,rfl,fin e he _⟩⟩
theorem S_law_odd : FnScope ["far","number","some"] ["far","number"] (defScope (top 24)) := ⟨rfl,rfl,rfl,by decide +kernel,rfl,by decide +kernel,by decide +kernel⟩
theorem fn_law_odd (D_law_odd : Df K mg "_law_odd" (top 24)) (T : Txt mg) : Fn P w K mg base "_law_odd" ["far","number"] 1 spOdd := by
  refine D_law_odd.fn S_law_odd (fun _ _ _ _ _ _ us hl => match us,hl with | [_,_],_ => rfl) (fun vs H Q E h => ?_) (fun f cdv A outer s H vs Q E hr h => ?_)
  · obtain ⟨far,n,rfl,_⟩ := h
    rfl
  · obtain ⟨far,n,rfl,q⟩ := h
    refine ⟨_,(@pss_cons _ _ _ _ _ (@ps_set _ _ 2 _ _ _ _ S_law_odd.nd rfl (Or.inl rfl) (@pe_lstA _ _ _ _ (@pa_cons _ _ _ _ _ pe_bl (@pa_cons _ _ _ _ _ pe_bl (@pa_cons _ _ _ _ _ pe_non (@pa_cons _ _ _ _ _ pe_str (@pa_cons _ _ _ _ _ pe_str (@pa_cons _ _ _ _ _ (@pe_lstA _ _ _ _ pa_nil) (@pa_cons _ _ _ _ _ (@pe_lstA _ _ _ _ (@pa_cons _ _ _ _ _ (pv 0) pa_nil (by rfl))) (@pa_cons _ _ _ _ _ (@pe_tupA _ _ _ _ _ pa_nil) (@pa_cons _ _ _ _ _ (@pe_tupA _ _ _ _ _ (@pa_cons _ _ _ _ _ (pv 0) pa_nil (by rfl))) (@pa_cons _ _ _ _ _ (@pe_tupA _ _ _ _ _ (@pa_cons _ _ _ _ _ (pv 0) (@pa_cons _ _ _ _ _ pe_int pa_nil (by rfl)) (by rfl))) (@pa_cons _ _ _ _ _ pe_dnewK (@pa_cons _ _ _ _ _ (pe_disp (pps_cons (pv 0) pe_int pps_nil) rfl rfl (by simp) (by decide)) (@pa_cons _ _ _ _ _ (pe_disp (pps_cons pe_str (pv 0) pps_nil) rfl rfl (by simp) (by decide)) pa_nil (by rfl)) (by rfl)) (by rfl)) (by rfl)) (by rfl)) (by rfl)) (by rfl)) (by rfl)) (by rfl)) (by rfl)) (by rfl)) (by rfl)) (by rfl))) (by rfl) (by first | exact .inl rfl | exact .inr rfl | assumption)) (pss_one (ps_ret (pe_ix ix_list (pv 2) (pe_op op_mod (pv 1) pe_int) (fun _ _ => rfl))))),?_⟩
    refine ⟨sz (by simp),fun l5 H5 s5 f5 n5 => ?_⟩
    refine ⟨_,rfl,sz (by simp),fun l6 H6 s6 f6 n6 => ?_⟩
    refine ⟨sz (by simp),fun l7 H7 s7 f7 n7 => ?_⟩
    refine ⟨_,rfl,sz (by simp),fun l8 H8 s8 f8 n8 => ?_⟩
    refine ⟨_,rfl,sz (by simp),fun l9 H9 s9 f9 n9 => ?_⟩
    refine fun d10 n10 => ?_
    have f10 : (upd H9 d10 (.dK [])) d10 = some (.dK []) := upd_same
    have s10 : Same H9 (upd H9 d10 (.dK [])) := Same.new n10
    generalize upd H9 d10 (.dK []) = H10 at f10 s10 ⊢
    refine fun d11 n11 => ⟨_,rfl,upd_same,[(.inl far,.int 1)],rfl,by simp,?_⟩
    have f11 : (upd (upd H10 d11 (.dK [])) d11 (.dK (mergeK [] [(.inl far,.int 1)]))) d11 = some (.dK (mergeK [] [(.inl far,.int 1)])) := upd_same
    have s11 : Same H10 (upd (upd H10 d11 (.dK [])) d11 (.dK (mergeK [] [(.inl far,.int 1)]))) := fun b o e => by
      have hb : b ≠ d11 := ne_of_none e n11
      rw [upd_ne hb,upd_ne hb]
      exact e
    generalize upd (upd H10 d11 (.dK [])) d11 (.dK (mergeK [] [(.inl far,.int 1)])) = H11 at f11 s11 ⊢
    refine fun d12 n12 => ⟨_,rfl,upd_same,[(.inr (Str.ofString "top"),.int far)],rfl,by simp,?_⟩
    have f12 : (upd (upd H11 d12 (.dK [])) d12 (.dK (mergeK [] [(.inr (Str.ofString "top"),.int far)]))) d12 = some (.dK (mergeK [] [(.inr (Str.ofString "top"),.int far)])) := upd_same
    have s12 : Same H11 (upd (upd H11 d12 (.dK [])) d12 (.dK (mergeK [] [(.inr (Str.ofString "top"),.int far)]))) := fun b o e => by
      have hb : b ≠ d12 := ne_of_none e n12
      rw [upd_ne hb,upd_ne hb]
      exact e
    generalize upd (upd H11 d12 (.dK [])) d12 (.dK (mergeK [] [(.inr (Str.ofString "top"),.int far)])) = H12 at f12 s12 ⊢
    refine ⟨sz (by simp),fun l H13 s13 f13 n13 => ?_⟩
    have X12 := s13
    have X11 : Same H11 H13 := s12.trans X12
    have X10 : Same H10 H13 := s11.trans X11
    have X9 : Same H9 H13 := s10.trans X10
    have X8 : Same H8 H13 := s9.trans X9
    have X7 : Same H7 H13 := s8.trans X8
    have X6 : Same H6 H13 := s7.trans X7
    have X5 : Same H5 H13 := s6.trans X6
    refine ⟨_,rfl,_,rfl,_,_,rfl,rfl,(by show (0 : Int) < 13; decide),menu_mod f13 (by decide) (by simp) fun v hv => q v H13 (s5.trans X5) ?_⟩
    simp only [List.mem_cons,List.not_mem_nil,or_false] at hv
    rcases hv with rfl | rfl | rfl | rfl | rfl | rfl | rfl | rfl | rfl | rfl | rfl | rfl | rfl
    · exact ⟨⟨_,.bl _⟩,fun a z => nomatch z⟩
    · exact ⟨⟨_,.bl _⟩,fun a z => nomatch z⟩
    · exact ⟨⟨_,.non⟩,fun a z => nomatch z⟩
    · exact ⟨⟨_,.str _⟩,fun a z => nomatch z⟩
    · exact ⟨⟨_,.str _⟩,fun a z => nomatch z⟩
    · exact ⟨⟨_,.lst (X5 _ _ f5)⟩,fun a z => nomatch z⟩
    · exact ⟨⟨_,.lst (X6 _ _ f6)⟩,fun a z => nomatch z⟩
    · exact ⟨⟨_,.tup (X7 _ _ f7)⟩,fun a z => nomatch z⟩
    · exact ⟨⟨_,.tup (X8 _ _ f8)⟩,fun a z => nomatch z⟩
    · exact ⟨⟨_,.tup (X9 _ _ f9)⟩,fun a z => nomatch z⟩
    · exact ⟨⟨_,.dict (X10 _ _ f10)⟩,fun a z => nomatch z⟩
    · exact ⟨⟨_,.dict (X11 _ _ f11)⟩,fun a z => nomatch z⟩
    · exact ⟨⟨_,.dict (X12 _ _ f12)⟩,fun a z => nomatch z⟩
theorem f60 : (2 * (10 : Int) ^ (60 : Int).toNat - 1) = 1999999999999999999999999999999999999999999999999999999999999 := by decide +kernel
theorem g60 : (10 : Int) ^ (60 : Int).toNat - 1 = 999999999999999999999999999999999999999999999999999999999999 := by decide +kernel
theorem b61 {z : Int} (h0 : -2000000000000000000000000000000000000000000000000000000000000 ≤ z) (h1 : z ≤ 2000000000000000000000000000000000000000000000000000000000000) : bits z ≤ 202 := bits_of (n := 202) (by show _ < 6427752177035961102167848369364650410088811975131171341205504; omega)
def dTwo (a b : Int) : D := .tup [.int a,.int b]
theorem two_rp {H : Hp} {r : Addr} {a b : Int} (e : H r = some (.tup [.int a,.int b])) : Rp H 9 (.ref r) (dTwo a b) := Rp.t2 e .int .int
theorem frac_one {a t u : Int} (h : Frac a 1 t u) : t = a ∧ u = 1 := by
  exact low_unique h.low (⟨by decide,Int.gcd_one⟩ : Low a 1) (by have := h.eq; rw [Int.mul_one] at *; omega)
theorem S_law : FnScope ["script","cell","numbers","far","thing","other"] ["script"] (defScope (top 29)) := ⟨rfl,rfl,rfl,by decide +kernel,rfl,by decide +kernel,by decide +kernel⟩
theorem fn_law {c0 : Addr} (D_law : Df K mg "law" (top 29)) (F_law_numbers : Fn P w K mg base "_law_numbers" ["cell","many","base"] 2 spNumbers) (F_law_odd : Fn P w K mg base "_law_odd" ["far","number"] 1 spOdd) (F_law_refused : Fn P w K mg base "_law_refused" ["top","bottom","way"] 4 (spRefX c0)) (F_ratio : Fx P w K mg base "ratio" ["top","bottom"] 2 [.int 1] (spRatX c0)) (F_law_apart : Fn P w K mg base "_law_apart" [] 2 spTrue) (T : Txt mg) : Fn P w K mg base "law" ["script"] 5 (spLaw K) := by
  refine D_law.fn S_law (fun _ _ _ _ _ _ us hl => match us,hl with | [_],_ => rfl) (fun vs H Q E h => ?_) (fun f cdv A outer s H vs Q E hr h => ?_)
  · obtain ⟨sa,ss,rfl,_⟩ := h
    rfl
  · obtain ⟨sa,ss,rfl,hS,hlen,fin⟩ := h
    refine ⟨_,(pss_cons (ps_for PassesOwn.never rfl (pi_list (pe_op op_catA (pe_slice sl_listA (pv 0) po_none (po_some pe_int)) (pe_lstA (pa_cons (pe_callB call_len_seq (by rfl) T.z_len bt_len (pa_cons (pv 0) pa_nil)) pa_nil)))) (pg_name (i := 1) S_law.nd rfl (Or.inl rfl)) (pss_cons (ps_set (i := 2) S_law.nd rfl (Or.inl rfl) (pe_fn F_law_numbers (hr.mono (by decide)) (by rfl) (pa_cons (pv 1) (pa_cons pe_int (pa_cons (pe_op op_sub (pe_op op_mulX pe_int (pe_op op_pow pe_int pe_int)) pe_int) pa_nil))))) (pss_cons (ps_set (i := 3) S_law.nd rfl (Or.inl rfl) (pe_op op_sub (pe_ix ix_list (pv 2) pe_int (fun _ _ => rfl)) (pe_op op_sub (pe_op op_pow pe_int pe_int) pe_int))) (pss_cons (ps_set (i := 4) S_law.nd rfl (Or.inl rfl) (pe_fn F_law_odd (hr.mono (by decide)) (by rfl) (pa_cons (pv 3) (pa_cons (pe_ix ix_list (pv 2) pe_int (fun _ _ => rfl)) pa_nil)))) (pss_cons (ps_set (i := 5) S_law.nd rfl (Or.inl rfl) (pe_fn F_law_odd (hr.mono (by decide)) (by rfl) (pa_cons (pv 3) (pa_cons (pe_ix ix_list (pv 2) pe_int (fun _ _ => rfl)) pa_nil)))) (pss_cons (ps_if (pw_or (pt_not (pt_val (pe_fn F_law_refused (hr.mono (by decide)) (by rfl) (pa_cons (pv 4) (pa_cons pe_non (pa_cons pe_int pa_nil)))))) (pw_or1 (pt_not (pt_val (pe_fn F_law_refused (hr.mono (by decide)) (by rfl) (pa_cons (pv 4) (pa_cons (pv 5) (pa_cons pe_int pa_nil)))))))).pt (pss_one (ps_ret pe_bl)) pss_nil) (pss_cons (ps_if (pw_or (pt_not (pt_val (pe_fn F_law_refused (hr.mono (by decide)) (by rfl) (pa_cons (pv 4) (pa_cons (pv 3) (pa_cons pe_int pa_nil)))))) (pw_or (pt_not (pt_val (pe_fn F_law_refused (hr.mono (by decide)) (by rfl) (pa_cons (pv 3) (pa_cons (pv 4) (pa_cons pe_int pa_nil)))))) (pw_or1 (pt_not (pt_val (pe_fn F_law_refused (hr.mono (by decide)) (by rfl) (pa_cons (pv 4) (pa_cons pe_int (pa_cons pe_int pa_nil))))))))).pt (pss_one (ps_ret pe_bl)) pss_nil) (pss_cons (ps_if (pw_or (pt_not (pt_val (pe_fn F_law_refused (hr.mono (by decide)) (by rfl) (pa_cons (pv 3) (pa_cons pe_int (pa_cons pe_int pa_nil)))))) (pw_or1 (pt_cmpR (op_neD hr.units10) (pe_fxd0 F_ratio (hr.mono (by decide)) (by rfl) (pa_cons (pv 3) pa_nil)) (pe_tupA (pa_cons (pv 3) (pa_cons pe_int pa_nil))) (nomark _)))).pt (pss_one (ps_ret pe_bl)) pss_nil) (pss_cons (ps_if (pt_not (pt_val (pe_fn F_law_refused (hr.mono (by decide)) (by rfl) (pa_cons (pe_tupA (pa_cons pe_int (pa_cons pe_int pa_nil))) (pa_cons (pe_tupA (pa_cons pe_int (pa_cons pe_int pa_nil))) (pa_cons pe_int pa_nil)))))) (pss_one (ps_ret pe_bl)) pss_nil) (pss_one (ps_if (pt_not (pt_val (pe_fn F_law_refused (hr.mono (by decide)) (by rfl) (pa_cons (pe_fx0 F_ratio (hr.mono (by decide)) (by rfl) (pa_cons (pv 3) (pa_cons (pe_op op_add pe_int (pe_op op_mod (pe_ix ix_list (pv 2) pe_int (fun _ _ => rfl)) (pe_op op_sub (pe_op op_pow pe_int pe_int) pe_int))) pa_nil))) (pa_cons (pe_tupA (pa_cons pe_int (pa_cons pe_int pa_nil))) (pa_cons pe_int pa_nil)))))) (pss_one (ps_ret pe_bl)) pss_nil))))))))))) (pss_one (ps_ret (pe_fn0 F_law_apart (hr.mono (by decide)) (by rfl))))),?_⟩
    refine ⟨_,rfl,_,rfl,sa,_,rfl,hS,fun p0 H0 s0 f0 n0 => ?_⟩
    refine ⟨_,rfl,sa,_,rfl,.inl (s0.seq hS),sz (by simp),fun p1 H1 s1 f1 n1 => ?_⟩
    refine ⟨p0,p1,_,_,rfl,rfl,s1 _ _ f0,f1,cells_len hlen,fun p2 H2 s2 f2 n2 => ?_⟩
    refine ⟨p2,rfl,⟨_,SqL.of f2⟩,for_list (K := K) (a := p2) (xs := cutV (ss.map V.int) none (some 40) ++ [.int (((ss.map V.int).length : Nat) : Int)]) (fun _ σ H3 => ∃ z1 z2 z3 z4 z5,σ = [some (.ref sa),z1,z2,z3,z4,z5] ∧ Same H2 H3)
      ⟨_,_,_,_,_,rfl,Same.refl _⟩ (fun i σ H3 _ ⟨_,_,_,_,_,_,sm⟩ => SqL.of (sm _ _ f2)) ?_ ?_⟩
    · rintro i o σ H3 hi ⟨z1,z2,z3,z4,z5,rfl,sm⟩
      obtain ⟨c,rfl⟩ := cells_int hi
      refine ⟨_,rfl,_,_,rfl,rfl,⟨by decide,by decide,by decide⟩,_,_,rfl,rfl,CM.l ⟨by decide,by decide⟩,_,_,rfl,rfl,c,4,_,rfl,by decide,⟨by rw [f60]; decide,by rw [f60]; decide +kernel⟩,fun pn ns H4 hn hns s4 f4 => ?_⟩
      rw [f60] at hns
      obtain ⟨m0,m1,m2,m3,rfl⟩ := len4 hn
      have y0 := hns m0 (by simp)
      have y3 := hns m3 (by simp)
      refine ⟨_,rfl,pn,_,_,_,rfl,rfl,SqL.of f4,rfl,_,_,rfl,rfl,⟨by decide,by decide,by decide⟩,_,_,rfl,rfl,_,_,rfl,rfl,?_⟩
      have bf : bits (m0 - ((10 : Int) ^ (60 : Int).toNat - 1)) ≤ 2000 := by rw [g60]; exact bits_le (b61 (by omega) (by omega)) (by decide)
      refine ⟨_,rfl,_,rfl,pn,_,_,_,rfl,rfl,SqL.of f4,rfl,(m0 - ((10 : Int) ^ (60 : Int).toNat - 1)),m1,rfl,fun th H5 s5 o5 => ?_⟩
      refine ⟨_,rfl,_,rfl,pn,_,_,_,rfl,rfl,SqL.of (s5 _ _ f4),rfl,(m0 - ((10 : Int) ^ (60 : Int).toNat - 1)),m2,rfl,fun ot H6 s6 o6 => ?_⟩
      have ot6 := o5.mono s6
      refine ⟨_,rfl,th,.non,0,rfl,.inl ⟨rfl,ot6⟩,fun H7 s7 => ⟨_,rfl,iteFalse (by decide) ?_⟩⟩
      have a7 := ot6.mono s7
      have b7 := o6.mono s7
      refine ⟨_,rfl,_,rfl,th,ot,1,rfl,.inr (.inl ⟨rfl,a7.kn,b7.kn,.inl a7.no⟩),fun H8 s8 => ⟨_,rfl,iteFalse (by decide) ?_⟩⟩
      have a8 := a7.mono s8
      refine ⟨_,rfl,_,rfl,th,.int (m0 - ((10 : Int) ^ (60 : Int).toNat - 1)),1,rfl,.inr (.inl ⟨rfl,a8.kn,⟨_,.int _⟩,.inl a8.no⟩),fun H9 s9 => ⟨_,rfl,iteFalse (by decide) ?_⟩⟩
      have a9 := a8.mono s9
      refine ⟨_,rfl,_,rfl,.int (m0 - ((10 : Int) ^ (60 : Int).toNat - 1)),th,1,rfl,.inr (.inl ⟨rfl,⟨_,.int _⟩,a9.kn,.inr (.inl a9.no)⟩),fun H10 s10 => ⟨_,rfl,iteFalse (by decide) ?_⟩⟩
      have a10 := a9.mono s10
      refine ⟨_,rfl,th,.int 0,1,rfl,.inr (.inl ⟨rfl,a10.kn,⟨_,.int _⟩,.inl a10.no⟩),fun H11 s11 => ⟨_,rfl,iteFalse (by decide) ?_⟩⟩
      refine ⟨_,rfl,.int (m0 - ((10 : Int) ^ (60 : Int).toNat - 1)),.int 0,1,rfl,.inr (.inl ⟨rfl,⟨_,.int _⟩,⟨_,.int _⟩,.inr (.inr rfl)⟩),fun H12 s12 => ⟨_,rfl,iteFalse (by decide) ?_⟩⟩
      refine ⟨_,rfl,.int (m0 - ((10 : Int) ^ (60 : Int).toNat - 1)),.int 1,"int","int",rfl,.int _,.int _,.inr ⟨(m0 - ((10 : Int) ^ (60 : Int).toNat - 1)),1,rfl,rfl,by decide,⟨bf,by decide⟩,fun pr t u H13 fr s13 f13 n13 => ?_⟩⟩
      obtain ⟨rfl,rfl⟩ := frac_one fr
      refine ⟨_,rfl,sz (by simp),fun pr2 H14 s14 f14 n14 => ⟨_,_,two_rp (s14 _ _ f13),two_rp f14,_,rfl,iteFalse (by rw [deq_self]; rfl) ?_⟩⟩
      refine ⟨sz (by simp),fun q1 H15 s15 f15 n15 => ⟨sz (by simp),fun q2 H16 s16 f16 n16 => ?_⟩⟩
      refine ⟨.ref q1,.ref q2,2,rfl,.inr (.inr ⟨rfl,q1,q2,0,1,rfl,rfl,s16 _ _ f15,f16⟩),fun H17 s17 => ⟨_,rfl,iteFalse (by decide) ?_⟩⟩
      have S17 : Same H4 H17 := s5.trans (s6.trans (s7.trans (s8.trans (s9.trans (s10.trans (s11.trans (s12.trans (s13.trans (s14.trans (s15.trans (s16.trans s17)))))))))))
      have e3 : m3 % ((10 : Int) ^ (60 : Int).toNat - 1) = m3 % 999999999999999999999999999999999999999999999999999999999999 := by rw [g60]
      have r0 := Int.emod_nonneg m3 (show (999999999999999999999999999999999999999999999999999999999999 : Int) ≠ 0 by decide)
      have r1 := Int.emod_lt_of_pos m3 (show (0 : Int) < 999999999999999999999999999999999999999999999999999999999999 by decide)
      refine ⟨_,rfl,_,rfl,pn,_,_,_,rfl,rfl,SqL.of (S17 _ _ f4),rfl,_,_,rfl,rfl,⟨by decide,by decide,by decide⟩,_,_,rfl,rfl,_,_,rfl,rfl,(by show (0 : Int) < (10 : Int) ^ (60 : Int).toNat - 1; rw [g60]; decide),_,_,rfl,rfl,?_⟩
      refine ⟨.int _,.int _,"int","int",rfl,.int _,.int _,.inr ⟨_,_,rfl,rfl,by rw [e3]; omega,⟨bf,by rw [e3]; exact bits_le (b61 (by omega) (by omega)) (by decide)⟩,fun pr3 t3 u3 H18 fr3 s18 f18 n18 => ?_⟩⟩
      refine ⟨sz (by simp),fun q3 H19 s19 f19 n19 => ?_⟩
      refine ⟨.ref pr3,.ref q3,2,rfl,.inr (.inr ⟨rfl,pr3,q3,t3,u3,rfl,rfl,s19 _ _ f18,f19⟩),fun H20 s20 => ⟨_,rfl,iteFalse (by decide) ?_⟩⟩
      exact ⟨_,_,_,_,_,rfl,sm.trans (s4.trans (S17.trans (s18.trans (s19.trans s20))))⟩
    · rintro σ H3 ⟨z1,z2,z3,z4,z5,rfl,sm⟩
      exact ⟨rfl,fun H' _ => fin _⟩
end
def hNames0 : List (Str × Nat) := [(Str.ofString "is_whole",17),(Str.ofString "common_divisor",18),(Str.ofString "over",20),(Str.ofString "_law_mixed",22),(Str.ofString "_law_numbers",23),(Str.ofString "_law_odd",24),(Str.ofString "_law_marks",25),(Str.ofString "_law_apart",26),(Str.ofString "_law_alone",27),(Str.ofString "_law_refused",28),(Str.ofString "law",29)]
def hNamesD : List (Str × Nat × List V) := [(Str.ofString "ratio",19,[.int 1])]
def hExc : List Str := [Str.ofString "NoRatio",Str.ofString "NoLine",Str.ofString "NoPlace",Str.ofString "NoWay",Str.ofString "NoWalk",Str.ofString "NoFence",Str.ofString "NoSquare",Str.ofString "NoLines",Str.ofString "NoText",Str.ofString "NoName",Str.ofString "Twice",Str.ofString "TooMany",Str.ofString "NoRow",Str.ofString "NoDeed",Str.ofString "LeashError"]
def hNo : List Str := [Str.ofString "ValueError",Str.ofString "abs",Str.ofString "any",Str.ofString "bool",Str.ofString "int",Str.ofString "isinstance",Str.ofString "len",Str.ofString "range"]
def hTup : List (Str × List V) := []
def hEq0 (K : PySem.W.Frag) : List (List (List (Option Bool))) := [([Hd.cls K "NoRatio",Hd.cls K "NoLine",Hd.cls K "NoPlace",Hd.cls K "NoWay",Hd.cls K "NoWalk",Hd.cls K "NoFence",Hd.cls K "NoSquare",Hd.cls K "NoLines",Hd.cls K "NoText",Hd.cls K "NoName",Hd.cls K "Twice",Hd.cls K "TooMany",Hd.cls K "NoRow",Hd.cls K "NoDeed",Hd.cls K "LeashError"]).map (fun C => ([Hd.cls K "NoRatio",Hd.cls K "NoLine",Hd.cls K "NoPlace",Hd.cls K "NoWay",Hd.cls K "NoWalk",Hd.cls K "NoFence",Hd.cls K "NoSquare",Hd.cls K "NoLines",Hd.cls K "NoText",Hd.cls K "NoName",Hd.cls K "Twice",Hd.cls K "TooMany",Hd.cls K "NoRow",Hd.cls K "NoDeed",Hd.cls K "LeashError"]).map (fun D => PySem.W.kitOne K (.ref C) (.ref D)))]
def hVal0 : List (List (List (Option Bool))) := [(List.range 15).map (fun i => (List.range 15).map (fun j => some (i == j || j == 14)))]
def hEq1 (K : PySem.W.Frag) : List (List (Option Bool)) := [([Hd.cls K "NoRatio",Hd.cls K "NoLine",Hd.cls K "NoPlace",Hd.cls K "NoWay",Hd.cls K "NoWalk",Hd.cls K "NoFence",Hd.cls K "NoSquare",Hd.cls K "NoLines",Hd.cls K "NoText",Hd.cls K "NoName",Hd.cls K "Twice",Hd.cls K "TooMany",Hd.cls K "NoRow",Hd.cls K "NoDeed",Hd.cls K "LeashError"]).map (fun C => PySem.W.kitOne K (.ref C) (.type "ValueError"))]
def hVal1 : List (List (Option Bool)) := [List.replicate 15 (some true)]
def hEq2 (K : PySem.W.Frag) : List (List (Option (Option Value))) := [([Hd.cls K "NoRatio",Hd.cls K "NoLine",Hd.cls K "NoPlace",Hd.cls K "NoWay",Hd.cls K "NoWalk",Hd.cls K "NoFence",Hd.cls K "NoSquare",Hd.cls K "NoLines",Hd.cls K "NoText",Hd.cls K "NoName",Hd.cls K "Twice",Hd.cls K "TooMany",Hd.cls K "NoRow",Hd.cls K "NoDeed",Hd.cls K "LeashError"]).map (fun C => PySem.W.findIn K (.ref C) "__getattribute__"),([Hd.cls K "NoRatio",Hd.cls K "NoLine",Hd.cls K "NoPlace",Hd.cls K "NoWay",Hd.cls K "NoWalk",Hd.cls K "NoFence",Hd.cls K "NoSquare",Hd.cls K "NoLines",Hd.cls K "NoText",Hd.cls K "NoName",Hd.cls K "Twice",Hd.cls K "TooMany",Hd.cls K "NoRow",Hd.cls K "NoDeed",Hd.cls K "LeashError"]).map (fun C => PySem.W.findIn K (.ref C) "__getattr__"),([Hd.cls K "NoRatio",Hd.cls K "NoLine",Hd.cls K "NoPlace",Hd.cls K "NoWay",Hd.cls K "NoWalk",Hd.cls K "NoFence",Hd.cls K "NoSquare",Hd.cls K "NoLines",Hd.cls K "NoText",Hd.cls K "NoName",Hd.cls K "Twice",Hd.cls K "TooMany",Hd.cls K "NoRow",Hd.cls K "NoDeed",Hd.cls K "LeashError"]).map (fun C => PySem.W.findIn K (.ref C) "__class__")]
def hVal2 : List (List (Option (Option Value))) := [List.replicate 15 (some (some (.builtin "BaseException.__getattribute__"))),List.replicate 15 (some none),List.replicate 15 (some (some (.builtin "object.__class__")))]
def hEq3 (K : PySem.W.Frag) : List (Option Bool) := [PySem.W.exmOne K (.ref (Hd.cls K "NoRatio")) (.ref (Hd.cls K "LeashError")),PySem.W.kitAny K (.ref (Hd.cls K "NoRatio")) [(.ref (Hd.cls K "NoDeed")),(.ref (Hd.cls K "NoFence")),(.ref (Hd.cls K "NoLine")),(.ref (Hd.cls K "NoLines")),(.ref (Hd.cls K "NoName")),(.ref (Hd.cls K "NoPlace")),(.ref (Hd.cls K "NoRow"))],PySem.W.kitAny K (.ref (Hd.cls K "NoRatio")) [(.ref (Hd.cls K "NoSquare")),(.ref (Hd.cls K "NoText")),(.ref (Hd.cls K "NoWalk")),(.ref (Hd.cls K "NoWay")),(.ref (Hd.cls K "TooMany")),(.ref (Hd.cls K "Twice"))]]
def hVal3 : List (Option Bool) := [some true,some false,some false]
def hF0 (K : PySem.W.Frag) : List (Option (Arguments × List Stmt × Scope × Value)) := hNames0.map (fun p => Hd.fnFact K p.1)
def hG0 : List (Option (Arguments × List Stmt × Scope × Value)) := hNames0.map (fun p => some (defArgs (top p.2),defBody (top p.2),defScope (top p.2),.none))
def hF1 (K : PySem.W.Frag) : List (Option (Arguments × List Stmt × Scope × List V)) × Bool × Bool × List (Option (List V)) × List (List (List (Option Bool))) × List (List (Option Bool)) × List (List (Option (Option Value))) × List (Option Bool) := (hNamesD.map (fun p => Hd.fnFactD K p.1),hExc.all (Hd.excFact K),hNo.all (Hd.noFact K),hTup.map (fun p => Hd.tupFact K p.1),hEq0 K,hEq1 K,hEq2 K,hEq3 K)
def hG1 : List (Option (Arguments × List Stmt × Scope × List V)) × Bool × Bool × List (Option (List V)) × List (List (List (Option Bool))) × List (List (Option Bool)) × List (List (Option (Option Value))) × List (Option Bool) := (hNamesD.map (fun p => some (defArgs (top p.2.1),defBody (top p.2.1),defScope (top p.2.1),p.2.2)),true,true,hTup.map (fun p => some p.2),hVal0,hVal1,hVal2,hVal3)
def hFacts (K : PySem.W.Frag) : (List (Option (Arguments × List Stmt × Scope × Value))) × (List (Option (Arguments × List Stmt × Scope × List V)) × Bool × Bool × List (Option (List V)) × List (List (List (Option Bool))) × List (List (Option Bool)) × List (List (Option (Option Value))) × List (Option Bool)) := (hF0 K,hF1 K)
def hGood : (List (Option (Arguments × List Stmt × Scope × Value))) × (List (Option (Arguments × List Stmt × Scope × List V)) × Bool × Bool × List (Option (List V)) × List (List (List (Option Bool))) × List (List (Option Bool)) × List (List (Option (Option Value))) × List (Option Bool)) := (hG0,hG1)
def hView : Program := PySem.W.view PySem.Challenge.pw_oneleash_k02_no_fractions [29]
def hLoose : List Str := [Str.ofString "LeashError",Str.ofString "NoRatio",Str.ofString "NoLine",Str.ofString "NoPlace",Str.ofString "NoWay",Str.ofString "NoWalk",Str.ofString "NoFence",Str.ofString "NoSquare",Str.ofString "NoLines",Str.ofString "NoText",Str.ofString "NoName",Str.ofString "Twice",Str.ofString "TooMany",Str.ofString "NoRow",Str.ofString "NoDeed",Str.ofString "is_whole",Str.ofString "common_divisor",Str.ofString "ratio",Str.ofString "over",Str.ofString "_law_mixed",Str.ofString "_law_numbers",Str.ofString "_law_odd",Str.ofString "_law_marks",Str.ofString "_law_apart",Str.ofString "_law_alone",Str.ofString "_law_refused"]
noncomputable def hRunS (w : World) := (PySem.W.openEnds treeTable PySem.Challenge.pw_oneleash_k02_no_fractions w 100000).map (fun s => (PySem.W.openSeen hView hLoose (importedModules PySem.Challenge.pw_oneleash_k02_no_fractions.main.body) (fun _ => true) true s,hF0 (Hd.frag s.heap),hF1 (Hd.frag s.heap)))
noncomputable def hEndS := some (PySem.W.openGood hView hLoose,hG0,hG1)
theorem hRunS_self : @hRunS = @hRunS := rfl
theorem hEndS_self : @hEndS = @hEndS := rfl
set_option maxHeartbeats 0 in
lay_quick K2.hRunS K2.hEndS
name_quick hRunSQ for K2.hRunS by K2.hRunS_self
name_quick hEndSQ for K2.hEndS by K2.hEndS_self
set_option maxHeartbeats 0 in
theorem hQuickS (w : World) : PySem.W.Fast.hRunSQ w = PySem.W.Fast.hEndSQ := by kernel_rfl
theorem hOneS (w : World) : hRunS w = hEndS := (congrFun PySem.W.Fast.hRunSQ_eq w).trans ((hQuickS w).trans PySem.W.Fast.hEndSQ_eq.symm)
theorem hAll (w : World) : (PySem.W.openEnds treeTable PySem.Challenge.pw_oneleash_k02_no_fractions w 100000).map (fun s => (PySem.W.openSeen hView hLoose (importedModules PySem.Challenge.pw_oneleash_k02_no_fractions.main.body) (fun _ => true) true s,hFacts (Hd.frag s.heap))) = some (PySem.W.openGood hView hLoose,hGood) := by
  have rS : (PySem.W.openEnds treeTable PySem.Challenge.pw_oneleash_k02_no_fractions w 100000).map (fun s => (PySem.W.openSeen hView hLoose (importedModules PySem.Challenge.pw_oneleash_k02_no_fractions.main.body) (fun _ => true) true s,hF0 (Hd.frag s.heap),hF1 (Hd.frag s.heap))) = some (PySem.W.openGood hView hLoose,hG0,hG1) := hOneS w
  skip
  generalize (PySem.W.openEnds treeTable PySem.Challenge.pw_oneleash_k02_no_fractions w 100000) = x at *
  cases x with
  | none => cases rS
  | some s =>
    have qS := Option.some.inj rS
    show some (PySem.W.openSeen hView hLoose (importedModules PySem.Challenge.pw_oneleash_k02_no_fractions.main.body) (fun _ => true) true s,hFacts (Hd.frag s.heap)) = _
    unfold hFacts hGood
    have z := congrArg Prod.fst qS
    have q0 := (congrArg Prod.fst (congrArg Prod.snd qS))
    have q1 := (congrArg Prod.snd (congrArg Prod.snd qS))
    exact congrArg some (Hd.pair2 z (Hd.pair2 q0 q1))
theorem hLeft : PySem.W.LeftO PySem.Challenge.rw_oneleash_k02_no_fractions.prog hView hLoose (fun _ => true) (PySem.W.Hook.obs (Hd.hook hFacts hGood)) (PySem.W.Hook.val (Hd.hook hFacts hGood)) 100000 := hAll
theorem all_of {P : Program} {w : World} {K : PySem.W.Frag} (FK : hFacts K = hGood) {h : Heap} {mg : Str → Option Value} {fa : Addr} (X : K.In h) (G : h.Ns mainGlobals mg) (hfa : mg "law" = some (.ref fa)) :
    ∃ fd : FuncData,(∀ (s : Shared) (v : Value),BindsTo s fd ⟨[v],[]⟩ [("script",v)]) ∧ ∀ base : Heap,K.In base → base.Ns mainGlobals mg → FnOk P w K mg base CX0 5 fa fd ["script"] (spLaw K) := by
  have H0 : (hNames0.map (fun p => Hd.fnFact K p.1) : List (Option (Arguments × List Stmt × Scope × Value))) = hNames0.map (fun p => some (defArgs (top p.2),defBody (top p.2),defScope (top p.2),.none)) := (congrArg Prod.fst FK)
  have H1 : (hNamesD.map (fun p => Hd.fnFactD K p.1) : List (Option (Arguments × List Stmt × Scope × List V))) = hNamesD.map (fun p => some (defArgs (top p.2.1),defBody (top p.2.1),defScope (top p.2.1),p.2.2)) := (congrArg Prod.fst (congrArg Prod.snd FK))
  have H2 : (hExc.all (Hd.excFact K) : Bool) = true := (congrArg Prod.fst (congrArg Prod.snd (congrArg Prod.snd FK)))
  have H3 : (hNo.all (Hd.noFact K) : Bool) = true := (congrArg Prod.fst (congrArg Prod.snd (congrArg Prod.snd (congrArg Prod.snd FK))))
  have H4 : (hTup.map (fun p => Hd.tupFact K p.1) : List (Option (List V))) = hTup.map (fun p => some p.2) := (congrArg Prod.fst (congrArg Prod.snd (congrArg Prod.snd (congrArg Prod.snd (congrArg Prod.snd FK)))))
  have H5 : (hEq0 K : List (List (List (Option Bool)))) = hVal0 := (congrArg Prod.fst (congrArg Prod.snd (congrArg Prod.snd (congrArg Prod.snd (congrArg Prod.snd (congrArg Prod.snd FK))))))
  have H6 : (hEq1 K : List (List (Option Bool))) = hVal1 := (congrArg Prod.fst (congrArg Prod.snd (congrArg Prod.snd (congrArg Prod.snd (congrArg Prod.snd (congrArg Prod.snd (congrArg Prod.snd FK)))))))
  have H7 : (hEq2 K : List (List (Option (Option Value)))) = hVal2 := (congrArg Prod.fst (congrArg Prod.snd (congrArg Prod.snd (congrArg Prod.snd (congrArg Prod.snd (congrArg Prod.snd (congrArg Prod.snd (congrArg Prod.snd FK))))))))
  have H8 : (hEq3 K : List (Option Bool)) = hVal3 := (congrArg Prod.snd (congrArg Prod.snd (congrArg Prod.snd (congrArg Prod.snd (congrArg Prod.snd (congrArg Prod.snd (congrArg Prod.snd (congrArg Prod.snd FK))))))))
  have D_is_whole : Df K mg "is_whole" (top 17) := Hd.df_of X G (Hd.at_map H0 0 rfl)
  have D_common_divisor : Df K mg "common_divisor" (top 18) := Hd.df_of X G (Hd.at_map H0 1 rfl)
  have D_over : Df K mg "over" (top 20) := Hd.df_of X G (Hd.at_map H0 2 rfl)
  have D_law_mixed : Df K mg "_law_mixed" (top 22) := Hd.df_of X G (Hd.at_map H0 3 rfl)
  have D_law_numbers : Df K mg "_law_numbers" (top 23) := Hd.df_of X G (Hd.at_map H0 4 rfl)
  have D_law_odd : Df K mg "_law_odd" (top 24) := Hd.df_of X G (Hd.at_map H0 5 rfl)
  have D_law_marks : Df K mg "_law_marks" (top 25) := Hd.df_of X G (Hd.at_map H0 6 rfl)
  have D_law_apart : Df K mg "_law_apart" (top 26) := Hd.df_of X G (Hd.at_map H0 7 rfl)
  have D_law_alone : Df K mg "_law_alone" (top 27) := Hd.df_of X G (Hd.at_map H0 8 rfl)
  have D_law_refused : Df K mg "_law_refused" (top 28) := Hd.df_of X G (Hd.at_map H0 9 rfl)
  have D_law : Df K mg "law" (top 29) := Hd.df_of X G (Hd.at_map H0 10 rfl)
  have D_ratio : DfD K mg "ratio" (top 19) [.int 1] := Hd.dfd_of X G (Hd.at_map H1 0 rfl)
  have O_NoRatio : ExcC K mg "NoRatio" (Hd.cls K "NoRatio") := Hd.exc_of X G (Hd.at_all H2 0 rfl)
  have O_NoLine : ExcC K mg "NoLine" (Hd.cls K "NoLine") := Hd.exc_of X G (Hd.at_all H2 1 rfl)
  have O_NoPlace : ExcC K mg "NoPlace" (Hd.cls K "NoPlace") := Hd.exc_of X G (Hd.at_all H2 2 rfl)
  have O_NoWay : ExcC K mg "NoWay" (Hd.cls K "NoWay") := Hd.exc_of X G (Hd.at_all H2 3 rfl)
  have O_NoWalk : ExcC K mg "NoWalk" (Hd.cls K "NoWalk") := Hd.exc_of X G (Hd.at_all H2 4 rfl)
  have O_NoFence : ExcC K mg "NoFence" (Hd.cls K "NoFence") := Hd.exc_of X G (Hd.at_all H2 5 rfl)
  have O_NoSquare : ExcC K mg "NoSquare" (Hd.cls K "NoSquare") := Hd.exc_of X G (Hd.at_all H2 6 rfl)
  have O_NoLines : ExcC K mg "NoLines" (Hd.cls K "NoLines") := Hd.exc_of X G (Hd.at_all H2 7 rfl)
  have O_NoText : ExcC K mg "NoText" (Hd.cls K "NoText") := Hd.exc_of X G (Hd.at_all H2 8 rfl)
  have O_NoName : ExcC K mg "NoName" (Hd.cls K "NoName") := Hd.exc_of X G (Hd.at_all H2 9 rfl)
  have O_Twice : ExcC K mg "Twice" (Hd.cls K "Twice") := Hd.exc_of X G (Hd.at_all H2 10 rfl)
  have O_TooMany : ExcC K mg "TooMany" (Hd.cls K "TooMany") := Hd.exc_of X G (Hd.at_all H2 11 rfl)
  have O_NoRow : ExcC K mg "NoRow" (Hd.cls K "NoRow") := Hd.exc_of X G (Hd.at_all H2 12 rfl)
  have O_NoDeed : ExcC K mg "NoDeed" (Hd.cls K "NoDeed") := Hd.exc_of X G (Hd.at_all H2 13 rfl)
  have O_LeashError : ExcC K mg "LeashError" (Hd.cls K "LeashError") := Hd.exc_of X G (Hd.at_all H2 14 rfl)
  have T : Txt mg := ⟨PySem.W.mg_none_of X G (Hd.no_of (Hd.at_all H3 0 rfl)),PySem.W.mg_none_of X G (Hd.no_of (Hd.at_all H3 1 rfl)),PySem.W.mg_none_of X G (Hd.no_of (Hd.at_all H3 2 rfl)),PySem.W.mg_none_of X G (Hd.no_of (Hd.at_all H3 3 rfl)),PySem.W.mg_none_of X G (Hd.no_of (Hd.at_all H3 4 rfl)),PySem.W.mg_none_of X G (Hd.no_of (Hd.at_all H3 5 rfl)),PySem.W.mg_none_of X G (Hd.no_of (Hd.at_all H3 6 rfl)),PySem.W.mg_none_of X G (Hd.no_of (Hd.at_all H3 7 rfl))⟩
  have MX : ([Hd.cls K "NoRatio",Hd.cls K "NoLine",Hd.cls K "NoPlace",Hd.cls K "NoWay",Hd.cls K "NoWalk",Hd.cls K "NoFence",Hd.cls K "NoSquare",Hd.cls K "NoLines",Hd.cls K "NoText",Hd.cls K "NoName",Hd.cls K "Twice",Hd.cls K "TooMany",Hd.cls K "NoRow",Hd.cls K "NoDeed",Hd.cls K "LeashError"]).map (fun C => ([Hd.cls K "NoRatio",Hd.cls K "NoLine",Hd.cls K "NoPlace",Hd.cls K "NoWay",Hd.cls K "NoWalk",Hd.cls K "NoFence",Hd.cls K "NoSquare",Hd.cls K "NoLines",Hd.cls K "NoText",Hd.cls K "NoName",Hd.cls K "Twice",Hd.cls K "TooMany",Hd.cls K "NoRow",Hd.cls K "NoDeed",Hd.cls K "LeashError"]).map (fun D => PySem.W.kitOne K (.ref C) (.ref D))) = (List.range 15).map (fun i => (List.range 15).map (fun j => some (i == j || j == 14))) := Hd.at_two H5 0 rfl rfl
  have VX : ([Hd.cls K "NoRatio",Hd.cls K "NoLine",Hd.cls K "NoPlace",Hd.cls K "NoWay",Hd.cls K "NoWalk",Hd.cls K "NoFence",Hd.cls K "NoSquare",Hd.cls K "NoLines",Hd.cls K "NoText",Hd.cls K "NoName",Hd.cls K "Twice",Hd.cls K "TooMany",Hd.cls K "NoRow",Hd.cls K "NoDeed",Hd.cls K "LeashError"]).map (fun C => PySem.W.kitOne K (.ref C) (.type "ValueError")) = List.replicate 15 (some true) := Hd.at_two H6 0 rfl rfl
  have FA : ([Hd.cls K "NoRatio",Hd.cls K "NoLine",Hd.cls K "NoPlace",Hd.cls K "NoWay",Hd.cls K "NoWalk",Hd.cls K "NoFence",Hd.cls K "NoSquare",Hd.cls K "NoLines",Hd.cls K "NoText",Hd.cls K "NoName",Hd.cls K "Twice",Hd.cls K "TooMany",Hd.cls K "NoRow",Hd.cls K "NoDeed",Hd.cls K "LeashError"]).map (fun C => PySem.W.findIn K (.ref C) "__getattribute__") = List.replicate 15 (some (some (.builtin "BaseException.__getattribute__"))) := Hd.at_two H7 0 rfl rfl
  have FB : ([Hd.cls K "NoRatio",Hd.cls K "NoLine",Hd.cls K "NoPlace",Hd.cls K "NoWay",Hd.cls K "NoWalk",Hd.cls K "NoFence",Hd.cls K "NoSquare",Hd.cls K "NoLines",Hd.cls K "NoText",Hd.cls K "NoName",Hd.cls K "Twice",Hd.cls K "TooMany",Hd.cls K "NoRow",Hd.cls K "NoDeed",Hd.cls K "LeashError"]).map (fun C => PySem.W.findIn K (.ref C) "__getattr__") = List.replicate 15 (some none) := Hd.at_two H7 1 rfl rfl
  have FC : ([Hd.cls K "NoRatio",Hd.cls K "NoLine",Hd.cls K "NoPlace",Hd.cls K "NoWay",Hd.cls K "NoWalk",Hd.cls K "NoFence",Hd.cls K "NoSquare",Hd.cls K "NoLines",Hd.cls K "NoText",Hd.cls K "NoName",Hd.cls K "Twice",Hd.cls K "TooMany",Hd.cls K "NoRow",Hd.cls K "NoDeed",Hd.cls K "LeashError"]).map (fun C => PySem.W.findIn K (.ref C) "__class__") = List.replicate 15 (some (some (.builtin "object.__class__"))) := Hd.at_two H7 2 rfl rfl
  have m_NoRatio : PySem.W.exmOne K (.ref (Hd.cls K "NoRatio")) (.ref (Hd.cls K "LeashError")) = some true := Hd.at_two H8 0 rfl rfl
  have i_7 : PySem.W.kitAny K (.ref (Hd.cls K "NoRatio")) [(.ref (Hd.cls K "NoDeed")),(.ref (Hd.cls K "NoFence")),(.ref (Hd.cls K "NoLine")),(.ref (Hd.cls K "NoLines")),(.ref (Hd.cls K "NoName")),(.ref (Hd.cls K "NoPlace")),(.ref (Hd.cls K "NoRow"))] = some false := Hd.at_two H8 1 rfl rfl
  have i_6 : PySem.W.kitAny K (.ref (Hd.cls K "NoRatio")) [(.ref (Hd.cls K "NoSquare")),(.ref (Hd.cls K "NoText")),(.ref (Hd.cls K "NoWalk")),(.ref (Hd.cls K "NoWay")),(.ref (Hd.cls K "TooMany")),(.ref (Hd.cls K "Twice"))] = some false := Hd.at_two H8 2 rfl rfl
  refine law_fd h hfa fun base => ?_
  have cl : Cl K mg [Hd.cls K "NoRatio",Hd.cls K "NoLine",Hd.cls K "NoPlace",Hd.cls K "NoWay",Hd.cls K "NoWalk",Hd.cls K "NoFence",Hd.cls K "NoSquare",Hd.cls K "NoLines",Hd.cls K "NoText",Hd.cls K "NoName",Hd.cls K "Twice",Hd.cls K "TooMany",Hd.cls K "NoRow",Hd.cls K "NoDeed",Hd.cls K "LeashError"] := Cl.of ⟨⟨_,O_NoRatio⟩,⟨_,O_NoLine⟩,⟨_,O_NoPlace⟩,⟨_,O_NoWay⟩,⟨_,O_NoWalk⟩,⟨_,O_NoFence⟩,⟨_,O_NoSquare⟩,⟨_,O_NoLines⟩,⟨_,O_NoText⟩,⟨_,O_NoName⟩,⟨_,O_Twice⟩,⟨_,O_TooMany⟩,⟨_,O_NoRow⟩,⟨_,O_NoDeed⟩,⟨_,O_LeashError⟩⟩ MX VX FA FB FC
  have F_is_whole := fn_is_whole (P := P) (w := w) (base := base) D_is_whole T
  have F_common_divisor := fn_common_divisor (P := P) (w := w) (base := base) D_common_divisor T
  have F_law_mixed := fn_law_mixed (P := P) (w := w) (base := base) D_law_mixed
  have F_law_numbers := fn_law_numbers (P := P) (w := w) (base := base) D_law_numbers F_law_mixed T
  have F_law_marks := fn_law_marks (P := P) (w := w) (base := base) D_law_marks O_NoRatio O_NoLine O_NoPlace O_NoWay O_NoWalk O_NoFence O_NoSquare O_NoLines O_NoText O_NoName O_Twice O_TooMany O_NoRow O_NoDeed O_LeashError cl T
  have F_law_apart := fn_law_apart (P := P) (w := w) (base := base) D_law_apart O_NoRatio O_NoLine O_NoPlace O_NoWay O_NoWalk O_NoFence O_NoSquare O_NoLines O_NoText O_NoName O_Twice O_TooMany O_NoRow O_NoDeed O_LeashError cl F_law_marks T
  have F_ratio := fn_ratio (P := P) (w := w) (base := base) D_ratio O_NoRatio F_is_whole F_common_divisor
  have F_over := fn_over (P := P) (w := w) (base := base) D_over F_ratio
  have F_law_alone := fn_law_alone (P := P) (w := w) (base := base) D_law_alone O_NoRatio O_NoLine O_NoPlace O_NoWay O_NoWalk O_NoFence O_NoSquare O_NoLines O_NoText O_NoName O_Twice O_TooMany O_NoRow O_NoDeed O_LeashError cl (cl.f _ (by simp)) i_7 i_6 T
  have F_law_refused := fn_law_refused (P := P) (w := w) (base := base) D_law_refused O_LeashError m_NoRatio F_law_alone F_ratio F_over T
  have F_law_odd := fn_law_odd (P := P) (w := w) (base := base) D_law_odd T
  exact fn_law D_law F_law_numbers F_law_odd F_law_refused F_ratio F_law_apart T
end K2
end
open PySem PySem.W PyProof.Rows
set_option maxRecDepth 100000 in
set_option maxHeartbeats 0 in
theorem PySem.Challenge.cw_oneleash_k02_no_fractions_holds : PySem.Challenge.rw_oneleash_k02_no_fractions.Holds := by
  w_on; o_law
  refine holds_open (q := K2.hView) (loose := K2.hLoose) (Xt := fun _ => true) (XP := fun _ _ => True) (Yf := Hook.obs (Hd.hook K2.hFacts K2.hGood)) (Ya := Hook.val (Hd.hook K2.hFacts K2.hGood)) (YP := Hook.says (Hd.hook K2.hFacts K2.hGood)) (N := 100000) K2.hLeft (Hook.of _) (Hook.keeps _) (fun _ _ => trivial) (fun _ _ _ _ _ => trivial) (by rfl) (by rfl) (by rfl) (fun _ _ => recFacts_nil rfl) (by rfl) (by first | assumption | decide +kernel) (by decide +kernel) ⟨rfl,rfl,rfl,rfl,rfl,by decide +kernel⟩ ?hw ?hc
  case hw => w_witness2
  exact Hd.law_walk (l := PySem.Challenge.rw_oneleash_k02_no_fractions) (k := 5) ⟨rfl,by decide,by decide⟩ rfl rfl fun K FK w mg fa h KX G hmg => K2.all_of FK KX G hmg
