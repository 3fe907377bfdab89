import PyProof.Rows.All
import Wide.All
import OpenK.AllK
import Wide.FinOn
import Lean
import PyProof.EqAt
import PyProof.EqKinds
import PyProof.TupleCall
import PyProof.ExcArgsOwn
import KE.KTryMore
import PyProof.NsDelKeeps
import PyProof.ConsumeWalk
import PyProof.ZipIter
import PyProof.WalksEnum
import PyProof.EnumMake
import PyProof.NeKinds
import PyProof.DictWalks
import PyProof.AttrMissHeap
import KE.KDictOf
import KE.KLam
import PyProof.CompMap
import KE.KRevIter
import PyProof.ListRange
import PyProof.WalkInts
import PyProof.MinMaxWalk
import PyProof.Rows.CallKwBuiltin
import KE.KSliceW
import PyProof.ReprRoads
import PyProof.CallStr
import PySem.Challenge.RW_oneleash_k39_candidates_told
section
set_option Elab.async false
set_option linter.all false
set_option maxRecDepth 100000
namespace L2
open PySem PySem.Spec PyProof.Rows
abbrev Key := Sum Int Str
def keyIs : Key → Value → Bool
  | .inl k,v => Value.isInt k v
  | .inr x,v => Value.isStrOf x v
def keyH (w : World) : Key → Int
  | .inl k => hashInt k
  | .inr x => hashStr w x
theorem keyIs_shape : ∀ {k : Key} {v : Value},keyIs k v = true → (∃ i t,k = Sum.inl i ∧ v = Value.int i t) ∨ (∃ x t,k = Sum.inr x ∧ v = Value.str x t)
  | .inl i,v,h => by
    obtain ⟨t,e⟩ := Value.isInt_shape (k := i) (v := v) h
    exact .inl ⟨i,t,rfl,e⟩
  | .inr x,v,h => by
    obtain ⟨t,e⟩ := Value.isStrOf_shape (x := x) (v := v) h
    exact .inr ⟨x,t,rfl,e⟩
theorem keyIs_int (i : Int) (t : Tok) : keyIs (.inl i) (.int i t) = true := by simp [keyIs,Value.isInt]
theorem keyIs_str (x : Str) (t : Tok) : keyIs (.inr x) (.str x t) = true := by simp [keyIs,Value.isStrOf]
theorem key_ll (a b : Int) : decide ((Sum.inl a : Key) = Sum.inl b) = (a == b) := by
  by_cases e : a = b
  · subst e; simp
  · have h : ¬ (Sum.inl a : Key) = Sum.inl b := fun q => e (Sum.inl.inj q)
    rw [decide_eq_false h]
    exact (beq_eq_false_iff_ne.mpr e).symm
theorem key_rr (a b : Str) : decide ((Sum.inr a : Key) = Sum.inr b) = decide (a = b) := by
  by_cases e : a = b
  · subst e; simp
  · have h : ¬ (Sum.inr a : Key) = Sum.inr b := fun q => e (Sum.inr.inj q)
    rw [decide_eq_false h,decide_eq_false e]
theorem key_lr (a : Int) (b : Str) : decide ((Sum.inl a : Key) = Sum.inr b) = false := decide_eq_false (fun q => nomatch q)
theorem key_rl (a : Str) (b : Int) : decide ((Sum.inr a : Key) = Sum.inl b) = false := decide_eq_false (fun q => nomatch q)
def mixKind (prog : Program) (w : World) : PySem.KeyKind prog w Key where
  is := keyIs
  hash := keyH w
  inj := fun v a b ha hb => by
    rcases keyIs_shape ha with ⟨i,t,rfl,rfl⟩ | ⟨x,t,rfl,rfl⟩
    · rcases keyIs_shape hb with ⟨j,u,rfl,e⟩ | ⟨y,u,rfl,e⟩
      · injection e with e1 _; rw [e1]
      · exact nomatch e
    · rcases keyIs_shape hb with ⟨j,u,rfl,e⟩ | ⟨y,u,rfl,e⟩
      · exact nomatch e
      · injection e with e1 _; rw [e1]
  byValue := fun k v h => by
    rcases keyIs_shape h with ⟨i,t,rfl,rfl⟩ | ⟨x,t,rfl,rfl⟩ <;> rfl
  pyHash := fun hv h => by
    rcases keyIs_shape hv with ⟨i,t,rfl,rfl⟩ | ⟨x,t,rfl,rfl⟩
    · exact wpAny_pyHash_int h
    · exact wpAny_pyHash_str h
  eqBool := fun hu hv h => by
    rcases keyIs_shape hu with ⟨i,t,rfl,rfl⟩ | ⟨x,t,rfl,rfl⟩
    · rcases keyIs_shape hv with ⟨j,u,rfl,rfl⟩ | ⟨y,u,rfl,rfl⟩
      · rw [key_ll] at h; exact wpAny_eqBool_int h
      · rw [key_lr] at h; exact SeqAt.EqAt.int_str i t y u _ _ _ _ h
    · rcases keyIs_shape hv with ⟨j,u,rfl,rfl⟩ | ⟨y,u,rfl,rfl⟩
      · rw [key_rl] at h; exact SeqAt.EqAt.str_int x t j u _ _ _ _ h
      · rw [key_rr] at h; exact wpAny_eqBool_str h
  «strs» := fun k x t v h => by
    rcases keyIs_shape h with ⟨i,u,rfl,e⟩ | ⟨y,u,rfl,e⟩
    · exact nomatch e
    · injection e with e1 _
      subst e1
      cases v <;> rfl
theorem mixKind_int (prog : Program) (w : World) (i : Int) (t : Tok) : (mixKind prog w).is (.inl i) (.int i t) = true := keyIs_int i t
theorem mixKind_str (prog : Program) (w : World) (x : Str) (t : Tok) : (mixKind prog w).is (.inr x) (.str x t) = true := keyIs_str x t
end L2
namespace L2
open PySem PySem.Spec PyProof.Rows
inductive V where
  | non | bl (b : Bool) | int (i : Int) | str (x : Str) | byt (b : Array UInt8) | flt (b : UInt64) | ref (a : Addr) | ty (n : String)
  deriving DecidableEq
def RelV : V → Value → Prop
  | .non,u => u = Value.none
  | .bl b,u => u = Value.bool b
  | .int i,u => ∃ t,u = Value.int i t
  | .str x,u => ∃ t,u = Value.str x t
  | .byt b,u => ∃ t,u = Value.bytes b t
  | .flt b,u => ∃ t,u = Value.float b t
  | .ref a,u => u = Value.ref a
  | .ty n,u => u = Value.type n
abbrev Vals : List V → List Value → Prop := Paired RelV
theorem Vals.length {xs : List V} {us : List Value} (r : Vals xs us) : xs.length = us.length := Paired.length r
theorem Vals.get : ∀ {xs : List V} {us : List Value} {i : Nat} {x : V},Vals xs us → xs[i]? = some x → ∃ u,us[i]? = some u ∧ RelV x u
  | _,_,_,_,.nil,e => by simp at e
  | _,_,0,_,.cons r _,e => by simp at e; subst e; exact ⟨_,rfl,r⟩
  | _,_,i + 1,x,.cons _ t,e => by
    obtain ⟨u,h1,h2⟩ := Vals.get (i := i) (x := x) t (by simpa using e)
    exact ⟨u,by simpa using h1,h2⟩
theorem Vals.set {x : V} {u : Value} (r : RelV x u) : ∀ {xs : List V} {us : List Value} (i : Nat),Vals xs us → Vals (xs.set i x) (us.set i u)
  | _,_,_,.nil => .nil
  | _,_,0,.cons _ t => .cons r t
  | _,_,i + 1,.cons q t => .cons q (Vals.set r i t)
theorem Vals.append : ∀ {xs ys : List V} {us ws : List Value},Vals xs us → Vals ys ws → Vals (xs ++ ys) (us ++ ws)
  | _,_,_,_,.nil,s => s
  | _,_,_,_,.cons r t,s => .cons r (Vals.append t s)
theorem Vals.take : ∀ {xs : List V} {us : List Value} (n : Nat),Vals xs us → Vals (xs.take n) (us.take n)
  | _,_,0,_ => .nil
  | _,_,_ + 1,.nil => .nil
  | _,_,n + 1,.cons r t => .cons r (Vals.take n t)
theorem Vals.drop : ∀ {xs : List V} {us : List Value} (n : Nat),Vals xs us → Vals (xs.drop n) (us.drop n)
  | _,_,0,r => r
  | _,_,_ + 1,.nil => .nil
  | _,_,n + 1,.cons _ t => Vals.drop n t
def RelO : Option V → Option Value → Prop
  | some v,some u => RelV v u
  | none,none => True
  | _,_ => False
def KV {κ : Type} : List (κ × V) → List (κ × Value) → Prop := Paired fun (p : κ × V) (q : κ × Value) => p.1 = q.1 ∧ RelV p.2 q.2
def kV : Key → V
  | .inl i => .int i
  | .inr x => .str x
inductive HO where
  /-- a list -/
  | lst (xs : List V)
  /-- a tuple (never changes) -/
  | tup (xs : List V)
  /-- a dict whose keys are ints and texts; one whose keys are tuples of ints and texts (the empty one is both) -/
  | dK (kvs : List (Key × V)) | dT (kvs : List (List Key × V))
  /-- a set of ints: its members,its size -/
  | set (S : Int → Bool) (n : Nat)
  /-- an instance of the class at C,its dict at dx,its attributes -/
  | ins (C dx : Addr) (fs : List (Str × V))
  /-- the dict of the instance at x -/
  | own (x : Addr)
  /-- the dict of an exception -/
  | xd (fs : List (Str × V))
  /-- a bound method,f of x -/
  | met (f x : Addr)
  /-- a range object lo,lo + 1,.. below hi -/
  | rng (lo hi : Int)
  /-- a thing that is known to the object (the script; a dict while a loop walks it): read,never written while it is so -/
  | frz (o : Obj) (u : HO)
  /-- a code object's table -/
  | tbl (ps : Array Value)
  /-- any other thing,by what is true of its one object (a def of one's own: SetO a S n := HO.ext fun h => ..) -/
  | ext (φ : Heap → Prop)
abbrev Hp := Addr → Option HO
def upd (H : Hp) (a : Addr) (o : HO) : Hp := fun b => if b = a then some o else H b
theorem upd_same {H : Hp} {a : Addr} {o : HO} : upd H a o a = some o := by unfold upd; rw [if_pos rfl]
theorem upd_ne {H : Hp} {a b : Addr} {o : HO} (h : b ≠ a) : upd H a o b = H b := by unfold upd; rw [if_neg h]
theorem ne_of {H : Hp} {a b : Addr} {o u : HO} (h : H a = some o) (h' : H b = some u) (d : o ≠ u) : a ≠ b := by
  intro e; subst e; rw [h] at h'; exact d (Option.some.inj h')
theorem ne_of_none {H : Hp} {a b : Addr} {o : HO} (h : H a = some o) (h' : H b = none) : a ≠ b := by
  intro e; subst e; rw [h] at h'; cases h'
section
variable (P : Program) (w : World)
def ObjOk (H : Hp) (h : Heap) (a : Addr) : HO → Prop
  | .lst xs => xs.length ≤ sizeLine ∧ ∃ (its : List Value) (n : Nat),Vals xs its ∧ h.get? a = some { cls := .type "list",data := .seq its.toArray n }
  | .tup xs => xs.length ≤ sizeLine ∧ ∃ its : List Value,Vals xs its ∧ IsTup h a its.toArray
  | .dK kvs => kvs.length ≤ sizeLine ∧ (a == sysModules) = false ∧ ∃ vs,KV kvs vs ∧ h.DictOf (mixKind P w) a vs
  | .dT kvs => kvs.length ≤ sizeLine ∧ (a == sysModules) = false ∧ ∃ xs : List (List Key × Addr × Value),
      Paired (fun (p : List Key × V) (q : List Key × Addr × Value) => p.1 = q.1 ∧ H q.2.1 = some (.tup (p.1.map kV)) ∧ RelV p.2 q.2.2) kvs xs ∧
      ∃ o es ep,h.get? a = some o ∧ o.ExactDict ∧ o.data = .dict es ep ∧ es.toList = xs.map (entryOfKey (tupleKind (mixKind P w))) ∧ (xs.map (·.1)).Nodup
  | .set S n => h.SetOf (intKind P w) a S n
  | .ins C dx fs => H dx = some (.own a) ∧ fs.length ≤ 1000 ∧ dx ≠ a ∧ h.get? a = some (PySem.W.instObj C dx) ∧
      ∃ mA,h.Ns1 dx mA ∧ (∀ f,RelO (fs.lookup f) (mA f)) ∧ PySem.Within mA (fs.map (·.1))
  | .own _ => ∃ o,h.get? a = some o
  | .xd fs => ∃ mA,h.Ns1 a mA ∧ ∀ f,RelO (fs.lookup f) (mA f)
  | .rng lo hi => ∃ t u v,h.get? a = some { cls := .type "range",data := .fields #[.int lo t,.int hi u,.int 1 v] }
  | .frz o u => h.get? a = some o ∧ ObjOk H h a u
  | .tbl ps => h.get? a = some { cls := .none,data := .fields ps }
  | .met f x => h.get? a = some (PySem.W.methodObj (.ref f) (.ref x))
  | .ext φ => φ h ∧ (∃ o,h.get? a = some o) ∧ ∀ h1 h2 : Heap,φ h1 → (∀ o,h1.get? a = some o → h2.get? a = some o) → φ h2
def HOk (H : Hp) (h : Heap) : Prop := ∀ a o,H a = some o → ObjOk P w H h a o
end
section
variable {P : Program} {w : World} {H H' : Hp} {h h' : Heap} {a : Addr} {o : HO}
theorem ObjOk.lt (x : ObjOk P w H h a o) : a < h.objs.size := by
  cases o with
  | lst xs => obtain ⟨_,_,_,_,e⟩ := x; exact Heap.lt_size e
  | tup xs => obtain ⟨_,_,_,p⟩ := x; exact p.lt
  | dK kvs => obtain ⟨_,_,_,_,o,_,_,e,_⟩ := x; exact Heap.lt_size e
  | dT kvs => obtain ⟨_,_,_,_,o,_,_,e,_⟩ := x; exact Heap.lt_size e
  | set S n => obtain ⟨o,_,_,_,e,_⟩ := x; exact Heap.lt_size e
  | ins C dx fs => obtain ⟨_,_,_,e,_⟩ := x; exact Heap.lt_size e
  | own y => obtain ⟨_,e⟩ := x; exact Heap.lt_size e
  | xd fs => obtain ⟨_,⟨_,_,_,e,_⟩,_⟩ := x; exact Heap.lt_size e
  | rng lo hi => obtain ⟨_,_,_,e⟩ := x; exact Heap.lt_size e
  | frz ob u => obtain ⟨e,_⟩ := x; exact Heap.lt_size e
  | tbl ps => exact Heap.lt_size (show h.get? a = some _ from x)
  | met f y => exact Heap.lt_size (show h.get? a = some _ from x)
  | ext φ => obtain ⟨_,⟨_,e⟩,_⟩ := x; exact Heap.lt_size e
theorem Paired.mapP {α β : Type} {F G : α → β → Prop} : ∀ {l₁ : List α} {l₂ : List β},Paired F l₁ l₂ → (∀ a b,F a b → G a b) → Paired G l₁ l₂
  | _,_,.nil,_ => .nil
  | _,_,.cons r t,f => .cons (f _ _ r) (Paired.mapP t f)
theorem ObjOk.stay (x : ObjOk P w H h a o) (k : ∀ b u,(b = a ∨ H b = some (.own a)) → h.get? b = some u → h'.get? b = some u)
    (ho : ∀ b,H b = some (.own a) → H' b = some (.own a)) (ht : ∀ b xs,H b = some (.tup xs) → H' b = some (.tup xs)) : ObjOk P w H' h' a o := by
  induction o with
  | lst xs => obtain ⟨z,its,n,r,e⟩ := x; exact ⟨z,its,n,r,k _ _ (.inl rfl) e⟩
  | tup xs => obtain ⟨z,its,r,ob,e,c⟩ := x; exact ⟨z,its,r,ob,k _ _ (.inl rfl) e,c⟩
  | dK kvs => obtain ⟨z,y,vs,r,ob,es,ep,e,c⟩ := x; exact ⟨z,y,vs,r,ob,es,ep,k _ _ (.inl rfl) e,c⟩
  | dT kvs =>
    obtain ⟨z,y,xs,r,ob,es,ep,e,c⟩ := x
    exact ⟨z,y,xs,Paired.mapP r fun p q z => ⟨z.1,ht _ _ z.2.1,z.2.2⟩,ob,es,ep,k _ _ (.inl rfl) e,c⟩
  | set S n => obtain ⟨ob,es,ep,t,e,c⟩ := x; exact ⟨ob,es,ep,t,k _ _ (.inl rfl) e,c⟩
  | ins C dx fs =>
    obtain ⟨d,z,ne,e,mA,⟨od,es,ep,e2,c⟩,r⟩ := x
    exact ⟨ho _ d,z,ne,k _ _ (.inl rfl) e,mA,⟨od,es,ep,k _ _ (.inr d) e2,c⟩,r⟩
  | own y => obtain ⟨ob,e⟩ := x; exact ⟨ob,k _ _ (.inl rfl) e⟩
  | xd fs => obtain ⟨mA,⟨od,es,ep,e,c⟩,r⟩ := x; exact ⟨mA,⟨od,es,ep,k _ _ (.inl rfl) e,c⟩,r⟩
  | rng lo hi => obtain ⟨t,u,v,e⟩ := x; exact ⟨t,u,v,k _ _ (.inl rfl) e⟩
  | frz ob u ih => obtain ⟨e,q⟩ := x; exact ⟨k _ _ (.inl rfl) e,ih q⟩
  | tbl ps =>
    have e : h.get? a = some { cls := .none,data := .fields ps } := x
    show h'.get? a = some { cls := .none,data := .fields ps }
    exact k a _ (.inl rfl) e
  | met f y =>
    have e : h.get? a = some (PySem.W.methodObj (.ref f) (.ref y)) := x
    show h'.get? a = some (PySem.W.methodObj (.ref f) (.ref y))
    exact k a _ (.inl rfl) e
  | ext φ => obtain ⟨p,⟨o,e⟩,st⟩ := x; exact ⟨st _ _ p fun o q => k _ _ (.inl rfl) q,⟨o,k _ _ (.inl rfl) e⟩,st⟩
theorem HOk.lt (x : HOk P w H h) (e : H a = some o) : a < h.objs.size := (x a o e).lt
theorem HOk.fresh (x : HOk P w H h) (e : h.objs.size ≤ a) : H a = none := by
  cases q : H a with
  | none => rfl
  | some u => exact absurd (Nat.lt_of_lt_of_le (x.lt q) e) (Nat.lt_irrefl _)
theorem HOk.kept (x : HOk P w H h) (k : ∀ b u,h.get? b = some u → h'.get? b = some u) : HOk P w H h' := fun a o e =>
  (x a o e).stay (fun b u _ q => k b u q) (fun _ q => q) fun _ _ q => q
theorem HOk.laid (x : HOk P w H h) (k : ∀ b u,h.get? b = some u → h'.get? b = some u) (hp : h.objs.size ≤ a) (new : ObjOk P w (upd H a o) h' a o) : HOk P w (upd H a o) h' := fun b u e => by
  have hn := x.fresh hp
  by_cases hb : b = a
  · subst hb; rw [upd_same] at e; cases e; exact new
  · rw [upd_ne hb] at e
    exact (x b u e).stay (fun c v _ q => k c v q) (fun c q => by rw [upd_ne (ne_of_none q hn)]; exact q) fun c xs q => by rw [upd_ne (ne_of_none q hn)]; exact q
end
def Rd (H : Hp) (a : Addr) (u : HO) : Prop := H a = some u ∨ ∃ o,H a = some (.frz o u)
theorem Rd.ok {P : Program} {w : World} {H : Hp} {h : Heap} {a : Addr} {u : HO} (r : Rd H a u) (x : HOk P w H h) : ObjOk P w H h a u := by
  rcases r with r | ⟨o,r⟩
  · exact x a u r
  · obtain ⟨_,q⟩ := x a _ r
    exact q
def Mut : Option HO → Prop
  | some (.lst _) => True
  | some (.dK _) => True
  | some (.dT _) => True
  | some (.set _ _) => True
  | some (.ins _ _ _) => True
  | some (.ext _) => True
  | _ => False
section
variable {P : Program} {w : World} {H : Hp} {h h' : Heap} {x e : Addr} {o' : HO}
theorem HOk.write (ok : HOk P w H h) (mu : Mut (H x)) (he : e = x ∨ H e = some (.own x)) (k : ∀ b u,b ≠ e → h.get? b = some u → h'.get? b = some u) (heo : ∃ u,h'.get? e = some u)
    (new : ObjOk P w (upd H x o') h' x o') : HOk P w (upd H x o') h' := fun b u q => by
  have nown : ∀ c y,H c = some (.own y) → c ≠ x := fun c y r z => by subst z; rw [r] at mu; exact mu
  have ntup : ∀ c xs,H c = some (.tup xs) → c ≠ x := fun c xs r z => by subst z; rw [r] at mu; exact mu
  by_cases hb : b = x
  · subst hb; rw [upd_same] at q; cases q; exact new
  · rw [upd_ne hb] at q
    by_cases hbe : b = e
    · have q' : H b = some (.own x) := by
        rcases he with z | z
        · exact absurd (hbe.trans z) hb
        · rw [hbe]; exact z
      rw [q] at q'; cases q'
      obtain ⟨v,hv⟩ := heo
      exact ⟨v,by rw [hbe]; exact hv⟩
    · refine (ok b u q).stay (fun c v hc r => k c v ?_ r) (fun c r => by rw [upd_ne (nown c b r)]; exact r) fun c xs r => by rw [upd_ne (ntup c xs r)]; exact r
      rcases hc with rfl | hc
      · exact hbe
      · rintro rfl
        rcases he with z | z
        · exact nown c b hc z
        · rw [hc] at z; cases z; exact hb rfl
end
structure Un (fs ex : List Addr) (H H' : Hp) (h h' : Heap) : Prop where
  keep : ∀ b o,h.get? b = some o → H b = none → b ∉ fs → b ∉ ex → h'.get? b = some o
  slot : ∀ b o,h.get? b = some o → H b = none → b ∈ fs → b ∉ ex → ∃ sl,h'.get? b = some { o with slots := sl }
  free : ∀ b o,h.get? b = some o → H b = none → b ∉ ex → H' b = none
  there : ∀ b o,h.get? b = some o → b ∉ ex → ∃ o',h'.get? b = some o'
  tups : ∀ b xs,H b = some (.tup xs) → H' b = some (.tup xs)
  frzs : ∀ b o u,H b = some (.frz o u) → H' b = some (.frz o u)
  tbls : ∀ b ps,H b = some (.tbl ps) → ∃ more,H' b = some (.tbl (ps ++ more))
section
variable {fs fs' ex ex' : List Addr} {H H1 H2 : Hp} {h h1 h2 h' : Heap} {a x e : Addr} {o : HO}
theorem Un.any (u : Un fs ex H H1 h h1) {b : Addr} {ob : Obj} (q : h.get? b = some ob) (n : H b = none) (hx : b ∉ ex) : ∃ sl,h1.get? b = some { ob with slots := sl } := by
  by_cases hb : b ∈ fs
  · exact u.slot b ob q n hb hx
  · exact ⟨ob.slots,u.keep b ob q n hb hx⟩
theorem Un.kept (k : ∀ b u,h.get? b = some u → h'.get? b = some u) : Un fs ex H H h h' :=
  ⟨fun b ob q _ _ _ => k b ob q,fun b ob q _ _ _ => ⟨ob.slots,k b ob q⟩,fun _ _ _ n _ => n,fun b ob q _ => ⟨ob,k b ob q⟩,fun _ _ q => q,fun _ _ _ q => q,fun _ ps q => ⟨#[],by rw [q]; simp⟩⟩
theorem Un.refl : Un fs ex H H h h := Un.kept fun _ _ q => q
theorem Un.laid (k : ∀ b u,h.get? b = some u → h'.get? b = some u) (hp : h.objs.size ≤ a) (hn : H a = none) : Un fs ex H (upd H a o) h h' where
  keep := fun b u q _ _ _ => k b u q
  slot := fun b u q _ _ _ => ⟨u.slots,k b u q⟩
  free := fun b u q n _ => by rw [upd_ne (Nat.ne_of_lt (Nat.lt_of_lt_of_le (Heap.lt_size q) hp))]; exact n
  there := fun b u q _ => ⟨u,k b u q⟩
  tups := fun b xs q => by rw [upd_ne (ne_of_none q hn)]; exact q
  frzs := fun b u xs q => by rw [upd_ne (ne_of_none q hn)]; exact q
  tbls := fun b ps q => ⟨#[],by rw [upd_ne (ne_of_none q hn),q]; simp⟩
theorem Un.write (mu : Mut (H x)) (he : e = x ∨ H e = some (.own x)) (k : ∀ b u,b ≠ e → h.get? b = some u → h'.get? b = some u) (heo : ∃ u,h'.get? e = some u) : Un fs ex H (upd H x o) h h' := by
  have hx : ∀ b,H b = none → b ≠ x := fun b n z => by subst z; rw [n] at mu; exact mu
  have hb : ∀ b,H b = none → b ≠ e := fun b n z => by
    subst z
    rcases he with r | r
    · exact hx b n r
    · rw [n] at r; cases r
  have hm : ∀ b u,H b = some u → ¬ Mut (some u) → b ≠ x := fun b u q nm z => by subst z; rw [q] at mu; exact nm mu
  refine ⟨fun b u q n _ _ => k b u (hb b n) q,fun b u q n _ _ => ⟨u.slots,k b u (hb b n) q⟩,fun b u q n _ => by rw [upd_ne (hx b n)]; exact n,fun b u q _ => ?_,
    fun b xs q => by rw [upd_ne (hm b _ q fun z => z)]; exact q,fun b u xs q => by rw [upd_ne (hm b _ q fun z => z)]; exact q,fun b ps q => ⟨#[],by rw [upd_ne (hm b _ q fun z => z),q]; simp⟩⟩
  by_cases hbe : b = e
  · subst hbe; exact heo
  · exact ⟨u,k b u hbe q⟩
end
def trk (h : Heap) (H : Hp) : List Addr := (List.range h.objs.size).filter fun a => (H a).isSome
def hidT (h : Heap) (H : Hp) : Heap := PySem.W.hideAll h (trk h H)
theorem hidT_size (h : Heap) (H : Hp) : (hidT h H).objs.size = h.objs.size := PySem.W.hideAll_size _ _
theorem hidT_get {h : Heap} {H : Hp} {b : Addr} {o : Obj} (e : h.get? b = some o) (n : H b = none) : (hidT h H).get? b = some o :=
  PySem.W.hideAll_get _ e fun hm => by
    have q : (H b).isSome = true := (List.mem_filter.mp hm).2
    rw [n] at q; simp at q
theorem of_hidT {h : Heap} {H : Hp} {b : Addr} {o : Obj} (e : (hidT h H).get? b = some o) : h.get? b = some o ∧ H b = none := by
  have e' : h.get? b = some o := PySem.W.of_hideAll (trk h H) e
  refine ⟨e',?_⟩
  cases q : H b with
  | none => rfl
  | some x =>
    have hm : b ∈ trk h H := List.mem_filter.mpr ⟨List.mem_range.mpr (Heap.lt_size e'),by simp [q]⟩
    have z : (hidT h H).get? b = none := PySem.W.hideAll_none (trk h H) hm
    rw [z] at e; cases e
end L2
namespace L2
open PySem PySem.Spec PyProof.Rows
structure Mod (K : PySem.W.Frag) (mg : Str → Option Value) (base : Heap) : Prop where
  kin : K.In base
  glob : base.Ns mainGlobals mg
  blt : ∃ mb,base.Ns builtinsNs mb ∧ ∀ x : Str,x ≠ "__name__" → mb x = bootBuiltins x
  nolimit : base.NoLimit
structure Cx where
  prog : Program
  w : World
  K : PySem.W.Frag
  mg : Str → Option Value
  base : Heap
  A : Around
  N : List Str
  s₀ : Shared
  H₀ : Hp
  env : Env
  outer : List Env
  stack : List Env
  ex : List Addr
  fn : Str → Bool
  calm : Bool
  pn : List (Addr × Obj)
  xe : Value → Shared → Prop
def frs (l : List Env) : List Addr := l.filterMap (·.frame)
abbrev Cx.fs (X : Cx) : List Addr := frs X.outer
def Vis (sc : Scope) (x : Str) : Prop := sc.names.lookup x = some .local ∨ sc.names.lookup x = some .cell ∨ sc.names.lookup x = some .free
def Loc (sc : Scope) (x : Str) : Prop := sc.names.lookup x = some .local ∨ sc.names.lookup x = some .cell
def Look (env : Env) (h : Heap) (m : Str → Option Value) (x : Str) (u : Value) : Prop :=
  (env.kindOf x = some .local ∧ m x = some u) ∨ ((env.kindOf x = some .cell ∨ env.kindOf x = some .free) ∧ ∃ c,env.cells.lookup x = some c ∧ h.IsCell c (some u))
structure Cx.Ok (X : Cx) : Prop where
  mod : Mod X.K X.mg X.base
  kind : X.env.scope.kind = .function
  glob : X.env.globals = mainGlobals
  blt : X.env.builtins = builtinsNs
  above : X.s₀.heap.objs.size ≤ X.env.locals
  inj : ∀ x y c,X.env.cells.lookup x = some c → X.env.cells.lookup y = some c → x = y
  has : ∀ x,(X.env.kindOf x = some .cell ∨ X.env.kindOf x = some .free) → ∃ c,X.env.cells.lookup x = some c
  cab : ∀ x c,X.fn x = true → X.env.cells.lookup x = some c → X.s₀.heap.objs.size ≤ c
  hd : X.calm = true → X.A.handled = none
  frames : X.A.frames = some X.stack
  stk : X.stack = X.outer ∨ (X.stack = X.env :: X.outer ∧ X.env.frame = some X.env.locals)
  exf : ∀ b ∈ X.ex,b ≠ X.env.locals ∧ ∀ x c,X.env.cells.lookup x = some c → c ≠ b
  bs : ∀ b o,X.base.get? b = some o → X.s₀.heap.get? b = some o ∧ X.H₀ b = none
  bsz : X.base.objs.size ≤ X.s₀.heap.objs.size
  noex : ∀ b o,X.base.get? b = some o → b ∉ X.ex
  exfs : ∀ b ∈ X.ex,b ∉ X.fs
  funs : X.s₀.heap.FunFrames X.base X.outer
  frf : ∀ b ∈ X.fs,X.H₀ b = none
structure Inv (X : Cx) (pins : List (Addr × Obj)) (σ : List (Option V)) (H : Hp) (s : Shared) : Prop where
  ok : X.Ok
  os : s.os = X.s₀.os
  bare : AllBare s.gens
  base : Un X.fs X.ex X.H₀ H X.s₀.heap s.heap
  loc : ∃ m,s.heap.Ns X.env.locals m ∧ ∀ (i : Nat) (x : Str) (v : V),X.N[i]? = some x → σ[i]? = some (some v) → Vis X.env.scope x → ∃ u,RelV v u ∧ Look X.env s.heap m x u
  cell : ∀ x c,X.env.cells.lookup x = some c → ∃ v,s.heap.IsCell c v
  free : H X.env.locals = none
  freeC : ∀ x c,X.env.cells.lookup x = some c → H c = none
  pin : ∀ p ∈ X.pn ++ pins,s.heap.get? p.1 = some p.2 ∧ H p.1 = none ∧ p.1 ≠ X.env.locals ∧ p.1 ∉ X.fs ∧ ∀ v,p.2.data ≠ .cell v
  hok : HOk X.prog X.w H s.heap
  len : σ.length = X.N.length
section
variable {X : Cx} {pins : List (Addr × Obj)} {σ : List (Option V)} {H H' : Hp} {s : Shared} {h' : Heap}
theorem Cx.Ok.nofr (ok : X.Ok) {b : Addr} {o : Obj} (e : X.base.get? b = some o) : b ∉ X.fs := fun hb => by
  have := (ok.funs.mem hb).1
  rw [e] at this; cases this
theorem Inv.bs (I : Inv X pins σ H s) : ∀ b o,X.base.get? b = some o → s.heap.get? b = some o ∧ H b = none := fun b o e =>
  ⟨I.base.keep b o (I.ok.bs b o e).1 (I.ok.bs b o e).2 (I.ok.nofr e) (I.ok.noex b o e),I.base.free b o (I.ok.bs b o e).1 (I.ok.bs b o e).2 (I.ok.noex b o e)⟩
theorem Inv.bk (I : Inv X pins σ H s) : ∀ b o,X.base.get? b = some o → s.heap.get? b = some o := fun b o e => (I.bs b o e).1
theorem Inv.mod (I : Inv X pins σ H s) : Mod X.K X.mg X.base := I.ok.mod
theorem Inv.kIn (I : Inv X pins σ H s) : X.K.In s.heap := I.ok.mod.kin.keeps I.bk
theorem Inv.lt (I : Inv X pins σ H s) : X.env.locals < s.heap.objs.size := let ⟨_,hn,_⟩ := I.loc; hn.lt
theorem Inv.sz (I : Inv X pins σ H s) : X.s₀.heap.objs.size ≤ s.heap.objs.size := Nat.le_trans I.ok.above (Nat.le_of_lt I.lt)
theorem Inv.nofs (I : Inv X pins σ H s) {a : Addr} (h : s.heap.objs.size ≤ a) : a ∉ X.fs := fun hb => by
  obtain ⟨_,o,ho,_⟩ := I.ok.funs.mem hb
  exact absurd (Nat.lt_of_lt_of_le (Heap.lt_size ho) (Nat.le_trans I.sz h)) (Nat.lt_irrefl _)
theorem Inv.cne (I : Inv X pins σ H s) : ∀ x c,X.env.cells.lookup x = some c → c ≠ X.env.locals := fun x c e z => by
  obtain ⟨v,o,ho,hd⟩ := I.cell x c e
  obtain ⟨m,⟨o',es,ep,ho',hd',_⟩,_⟩ := I.loc
  rw [z,ho'] at ho; cases ho; rw [hd'] at hd; cases hd
theorem Inv.funs (I : Inv X pins σ H s) : s.heap.FunFrames X.base X.outer := by
  have all : ∀ (l : List Env),(∀ b ∈ frs l,b ∈ X.fs) → X.s₀.heap.FunFrames X.base l → s.heap.FunFrames X.base l := by
    intro l
    induction l with
    | nil => intro _ _; trivial
    | cons env r ih =>
      intro hs hl
      obtain ⟨hk,⟨L,o,hf,hn,ho,hd⟩,hr⟩ := hl
      have hL : L ∈ X.fs := hs L (by unfold frs; rw [List.filterMap_cons,hf]; exact List.mem_cons_self)
      obtain ⟨sl,e⟩ := I.base.slot L o ho (I.ok.frf L hL) hL fun z => I.ok.exfs L z hL
      exact ⟨hk,⟨L,_,hf,hn,e,hd⟩,ih (fun b hb => hs b (by unfold frs; rw [List.filterMap_cons,hf]; exact List.mem_cons_of_mem _ hb)) hr⟩
  exact all X.outer (fun _ hb => hb) I.ok.funs
theorem Inv.stack (I : Inv X pins σ H s) : s.heap.FunFrames X.base X.stack := by
  rcases I.ok.stk with e | ⟨e,hf⟩
  · rw [e]; exact I.funs
  · rw [e]
    obtain ⟨m,hn,_⟩ := I.loc
    refine .cons (by rw [I.ok.kind]; decide) hf hn ?_ I.funs
    exact Heap.get?_none_of_le (Nat.le_trans I.ok.bsz I.ok.above)
theorem Inv.stkSub (I : Inv X pins σ H s) : ∀ b ∈ frs X.stack,b ∈ X.env.locals :: X.fs := fun b hb => by
  rcases I.ok.stk with e | ⟨e,hf⟩
  · rw [e] at hb; exact List.mem_cons_of_mem _ hb
  · rw [e] at hb
    unfold frs at hb
    rw [List.filterMap_cons,hf] at hb
    exact hb
theorem Inv.stkFree (I : Inv X pins σ H s) : ∀ b ∈ frs X.stack,H b = none := fun b hb => by
  rcases List.mem_cons.mp (I.stkSub b hb) with e | hb
  · rw [e]; exact I.free
  · obtain ⟨_,o,ho,_⟩ := I.ok.funs.mem hb
    exact I.base.free b o ho (I.ok.frf b hb) fun z => I.ok.exfs b z hb
theorem Inv.step {g' : Array GenState} {t' : Nat} {d' : Drawn} {ch : List Addr} (I : Inv X pins σ H s)
    (hch : ∀ b ∈ ch,(b ∈ X.ex ∨ X.s₀.heap.objs.size ≤ b) ∧ b ≠ X.env.locals ∧ (∀ x c,X.env.cells.lookup x = some c → c ≠ b) ∧ ∀ p ∈ X.pn ++ pins,p.1 ≠ b)
    (keep : ∀ b o,b ≠ X.env.locals → b ∉ X.fs → b ∉ ch → s.heap.get? b = some o → H b = none → h'.get? b = some o)
    (slot : ∀ b o,b ≠ X.env.locals → b ∈ X.fs → b ∉ ch → s.heap.get? b = some o → H b = none → ∃ sl,h'.get? b = some { o with slots := sl }) (free : ∀ b o,b ∉ ch → s.heap.get? b = some o → H b = none → H' b = none)
    (there : ∀ b o,b ∉ ch → s.heap.get? b = some o → ∃ o',h'.get? b = some o')
    (tups : ∀ b xs,H b = some (.tup xs) → H' b = some (.tup xs)) (frzs : ∀ b o u,H b = some (.frz o u) → H' b = some (.frz o u)) (tbls : ∀ b ps,H b = some (.tbl ps) → ∃ more,H' b = some (.tbl (ps ++ more)))
    (ns : ∀ m,s.heap.Ns X.env.locals m → h'.Ns X.env.locals m) (hok : HOk X.prog X.w H' h') (hg : AllBare g') :
    Inv X pins σ H' { s with heap := h',gens := g',drawn := d',toks := t' } := by
  have neL : ∀ b o,X.s₀.heap.get? b = some o → b ≠ X.env.locals := fun b o e => Nat.ne_of_lt (Nat.lt_of_lt_of_le (Heap.lt_size e) I.ok.above)
  have neC : ∀ b o,X.s₀.heap.get? b = some o → b ∉ X.ex → b ∉ ch := fun b o e hx hb => by
    rcases (hch b hb).1 with z | z
    · exact hx z
    · exact absurd (Nat.lt_of_lt_of_le (Heap.lt_size e) z) (Nat.lt_irrefl _)
  have cellK : ∀ x c,X.env.cells.lookup x = some c → ∀ v,s.heap.IsCell c v → h'.IsCell c v := fun x c e v ⟨o,ho,hd⟩ => by
    have nch : c ∉ ch := fun z => (hch c z).2.2.1 x c e rfl
    by_cases hc : c ∈ X.fs
    · obtain ⟨sl,q⟩ := slot c o (I.cne x c e) hc nch ho (I.freeC x c e)
      exact ⟨_,q,hd⟩
    · exact ⟨o,keep c o (I.cne x c e) hc nch ho (I.freeC x c e),hd⟩
  refine ⟨I.ok,I.os,hg,⟨fun b o e n hb hx => ?_,fun b o e n hb hx => ?_,fun b o e n hx => ?_,fun b o e hx => ?_,fun b xs e => tups b xs (I.base.tups b xs e),fun b o xs e => frzs b o xs (I.base.frzs b o xs e),fun b ps e => ?_⟩,?_,fun x c e => ?_,?_,fun x c e => ?_,fun p hp => ?_,hok,I.len⟩
  · exact keep b o (neL b o e) hb (neC b o e hx) (I.base.keep b o e n hb hx) (I.base.free b o e n hx)
  · obtain ⟨sl,e1⟩ := I.base.slot b o e n hb hx
    obtain ⟨sl',e2⟩ := slot b _ (neL b o e) hb (neC b o e hx) e1 (I.base.free b o e n hx)
    exact ⟨sl',e2⟩
  · obtain ⟨o',e1⟩ := I.base.there b o e hx
    exact free b o' (neC b o e hx) e1 (I.base.free b o e n hx)
  · obtain ⟨o',e1⟩ := I.base.there b o e hx
    exact there b o' (neC b o e hx) e1
  · obtain ⟨m1,e1⟩ := I.base.tbls b ps e
    obtain ⟨m2,e2⟩ := tbls b _ e1
    exact ⟨m1 ++ m2,by rw [e2,Array.append_assoc]⟩
  · obtain ⟨m,hn,hl⟩ := I.loc
    refine ⟨m,ns m hn,fun i x v e1 e2 e3 => ?_⟩
    obtain ⟨u,r,l⟩ := hl i x v e1 e2 e3
    refine ⟨u,r,?_⟩
    rcases l with l | ⟨k,c,e,z⟩
    · exact .inl l
    · exact .inr ⟨k,c,e,cellK x c e _ z⟩
  · obtain ⟨v,z⟩ := I.cell x c e
    exact ⟨v,cellK x c e v z⟩
  · obtain ⟨m,⟨o,_,_,ho,_⟩,_⟩ := I.loc
    exact free _ o (fun z => (hch _ z).2.1 rfl) ho I.free
  · obtain ⟨v,o,ho,hd⟩ := I.cell x c e
    exact free c o (fun z => (hch c z).2.2.1 x c e rfl) ho (I.freeC x c e)
  · obtain ⟨e,n,ne,nf,d⟩ := I.pin p hp
    have nch : p.1 ∉ ch := fun z => (hch p.1 z).2.2.2 p hp rfl
    exact ⟨keep p.1 p.2 ne nf nch e n,free p.1 p.2 nch e n,ne,nf,d⟩
theorem Inv.un {t' : Nat} (I : Inv X pins σ H s) (u : Un X.fs [] H H' s.heap h') (hok : HOk X.prog X.w H' h') : Inv X pins σ H' { s with heap := h',toks := t' } := by
  obtain ⟨m,⟨o,es,ep,ho,r⟩,_⟩ := id I.loc
  obtain ⟨sl,hL⟩ := u.any ho I.free (by simp)
  exact I.step (g' := s.gens) (d' := s.drawn) (ch := []) (fun _ z => nomatch z) (fun b o _ hb _ e n => u.keep b o e n hb (by simp)) (fun b o _ hb _ e n => u.slot b o e n hb (by simp)) (fun b o _ e n => u.free b o e n (by simp)) (fun b o _ e => u.there b o e (by simp)) u.tups u.frzs u.tbls (fun m' hm => by
    obtain ⟨o',es',ep',ho',r'⟩ := hm
    rw [ho] at ho'; cases ho'
    exact ⟨_,es',ep',hL,r'⟩) hok I.bare
theorem Inv.call {g' : Array GenState} {t' : Nat} {d' : Drawn} {ch : List Addr} (I : Inv X pins σ H s) (u : Un (frs X.stack) ch H H' s.heap h') (hok : HOk X.prog X.w H' h') (hg : AllBare g')
    (hch : ∀ b ∈ ch,(b ∈ X.ex ∨ X.s₀.heap.objs.size ≤ b) ∧ b ≠ X.env.locals ∧ (∀ x c,X.env.cells.lookup x = some c → c ≠ b) ∧ ∀ p ∈ X.pn ++ pins,p.1 ≠ b) :
    Inv X pins σ H' { s with heap := h',gens := g',drawn := d',toks := t' } := by
  obtain ⟨m,⟨o,es,ep,ho,r⟩,_⟩ := id I.loc
  obtain ⟨sl,hL⟩ := u.any ho I.free fun z => (hch _ z).2.1 rfl
  exact I.step (ch := ch) hch (fun b o hL hb hc e n => u.keep b o e n (fun z => (List.mem_cons.mp (I.stkSub b z)).elim hL hb) hc) (fun b o _ _ hc e n => u.any e n hc) (fun b o hc e n => u.free b o e n hc) (fun b o hc e => u.there b o e hc) u.tups u.frzs u.tbls (fun m' hm => by
    obtain ⟨o',es',ep',ho',r'⟩ := hm
    rw [ho] at ho'; cases ho'
    exact ⟨_,es',ep',hL,r'⟩) hok hg
theorem Inv.turned {t' : Nat} {it : Addr} (I : Inv X pins σ H s) (k : ∀ b o,b ≠ it → s.heap.get? b = some o → h'.get? b = some o) (hn : H it = none) (hL : it ≠ X.env.locals)
    (h1 : it ∈ X.ex ∨ X.s₀.heap.objs.size ≤ it) (h2 : ∀ x c,X.env.cells.lookup x = some c → c ≠ it) (h3 : ∀ p ∈ X.pn ++ pins,p.1 ≠ it) : Inv X pins σ H { s with heap := h',toks := t' } := by
  have nit : ∀ b u,H b = some u → b ≠ it := fun b u e z => by rw [z,hn] at e; cases e
  refine I.step (g' := s.gens) (d' := s.drawn) (ch := [it]) (fun b hb => ?_) (fun b o _ _ hc e _ => k b o (fun z => hc (by simp [z])) e) (fun b o _ _ hc e _ => ⟨o.slots,k b o (fun z => hc (by simp [z])) e⟩) (fun _ _ _ _ n => n)
    (fun b o hc e => ⟨o,k b o (fun z => hc (by simp [z])) e⟩) (fun _ _ e => e) (fun _ _ _ e => e) (fun b ps e => ⟨#[],by rw [e]; simp⟩) (fun m hm => ?_) (fun b u e => ?_) I.bare
  · have e : b = it := by simpa using hb
    subst e
    exact ⟨h1,hL,h2,h3⟩
  · obtain ⟨o,es,ep,ho,r⟩ := hm
    exact ⟨o,es,ep,k _ o (Ne.symm hL) ho,r⟩
  · refine (I.hok b u e).stay (fun c v hc q => k c v ?_ q) (fun _ q => q) fun _ _ q => q
    rcases hc with z | z
    · rw [z]; exact nit b u e
    · exact nit c _ z
theorem Inv.tok (I : Inv X pins σ H s) (t : Nat) : Inv X pins σ H { s with toks := t } := I.un (h' := s.heap) (t' := t) Un.refl I.hok
theorem Inv.kept {t' : Nat} (I : Inv X pins σ H s) (k : ∀ b u,s.heap.get? b = some u → h'.get? b = some u) : Inv X pins σ H { s with heap := h',toks := t' } := I.un (Un.kept k) (I.hok.kept k)
theorem Inv.laid {a : Addr} {o : HO} {t' : Nat} (I : Inv X pins σ H s) (k : ∀ b u,s.heap.get? b = some u → h'.get? b = some u) (hp : s.heap.objs.size ≤ a) (new : ObjOk X.prog X.w (upd H a o) h' a o) :
    Inv X pins σ (upd H a o) { s with heap := h',toks := t' } := I.un (Un.laid k hp (I.hok.fresh hp)) (I.hok.laid k hp new)
theorem Inv.write {x e : Addr} {o : HO} {t' : Nat} (I : Inv X pins σ H s) (mu : Mut (H x)) (he : e = x ∨ H e = some (.own x)) (k : ∀ b u,b ≠ e → s.heap.get? b = some u → h'.get? b = some u) (heo : ∃ u,h'.get? e = some u)
    (new : ObjOk X.prog X.w (upd H x o) h' x o) : Inv X pins σ (upd H x o) { s with heap := h',toks := t' } := I.un (Un.write mu he k heo) (I.hok.write mu he k heo new)
theorem Inv.pins_of {pins' : List (Addr × Obj)} (I : Inv X pins σ H s) (h : ∀ p ∈ pins',s.heap.get? p.1 = some p.2 ∧ H p.1 = none ∧ p.1 ≠ X.env.locals ∧ p.1 ∉ X.fs ∧ ∀ v,p.2.data ≠ .cell v) : Inv X pins' σ H s :=
  ⟨I.ok,I.os,I.bare,I.base,I.loc,I.cell,I.free,I.freeC,fun p hp => (List.mem_append.mp hp).elim (fun z => I.pin p (List.mem_append_left _ z)) (h p),I.hok,I.len⟩
theorem nodup_ix {N : List Str} (hN : N.Nodup) {i j : Nat} {x : Str} (a : N[i]? = some x) (b : N[j]? = some x) : i = j := by
  obtain ⟨h1,e1⟩ := List.getElem?_eq_some_iff.mp a
  obtain ⟨h2,e2⟩ := List.getElem?_eq_some_iff.mp b
  exact (List.getElem_inj hN).mp (e1.trans e2.symm)
theorem store_ok2 {M : Model} {A : Around} {E : Value → Shared → Prop} {i : Nat} {x : Str} {v : V} {u : Value} {Q : Unit → Shared → Prop} (I : Inv X pins σ H s) (hN : X.N.Nodup) (hi : X.N[i]? = some x) (hx : Loc X.env.scope x) (r : RelV v u)
    (h : ∀ s',Inv X pins (σ.set i (some v)) H s' → (∃ a,Heap.SameBut a s.heap s'.heap ∧ (a = X.env.locals ∨ X.env.cells.lookup x = some a)) → Q () s') (hf : X.fn x = true ∨ X.env.scope.names.lookup x = some .local := by first | exact .inl rfl | exact .inr rfl | assumption) : wpAny M A (storeName X.env x u) Q E s := by
  obtain ⟨m,hn,hl⟩ := id I.loc
  have hcls : (X.env.scope.kind == .class || (X.env.scope.kind == .module && X.env.locals != X.env.globals)) = false := by rw [I.ok.kind]; rfl
  have hiσ : i < σ.length := by rw [I.len]; exact (List.getElem?_eq_some_iff.mp hi).1
  have cne := I.cne
  have tracked : ∀ {a : Addr} {h' : Heap},(∃ o,s.heap.get? a = some o ∧ H a = none) → Heap.SameBut a s.heap h' → HOk X.prog X.w H h' := fun {a h'} ha hs b ob e => by
    obtain ⟨_,_,hfree⟩ := ha
    refine (I.hok b ob e).stay (fun c w' hc q => (hs.2 c ?_).trans q) (fun _ q => q) fun _ _ q => q
    rintro rfl
    rcases hc with rfl | hc
    · rw [hfree] at e; cases e
    · rw [hfree] at hc; cases hc
  rcases hx with hk | hk
  · refine wpAny_storeName_local hk hn (fun h' hn' hs => ?_) hcls
    obtain ⟨oL,_,_,hoL,_⟩ := id hn
    refine h _ ⟨I.ok,I.os,I.bare,⟨fun b o e n hb hx => ?_,fun b o e n hb hx => ?_,I.base.free,fun b o e hx => ?_,I.base.tups,I.base.frzs,I.base.tbls⟩,⟨_,hn',fun j y v' e1 e2 e3 => ?_⟩,fun y c e => ?_,I.free,I.freeC,fun p hp => ?_,tracked ⟨oL,hoL,I.free⟩ hs,by simpa using I.len⟩ ⟨_,hs,.inl rfl⟩
    · exact (hs.2 b (Nat.ne_of_lt (Nat.lt_of_lt_of_le (Heap.lt_size e) I.ok.above))).trans (I.base.keep b o e n hb hx)
    · obtain ⟨sl,e1⟩ := I.base.slot b o e n hb hx
      exact ⟨sl,(hs.2 b (Nat.ne_of_lt (Nat.lt_of_lt_of_le (Heap.lt_size e) I.ok.above))).trans e1⟩
    · obtain ⟨o',e1⟩ := I.base.there b o e hx
      exact ⟨o',(hs.2 b (Nat.ne_of_lt (Nat.lt_of_lt_of_le (Heap.lt_size e) I.ok.above))).trans e1⟩
    · by_cases hj : j = i
      · subst hj
        rw [hi] at e1; cases e1
        rw [List.getElem?_set_self hiσ] at e2
        cases e2
        exact ⟨u,r,.inl ⟨hk,by simp⟩⟩
      · rw [List.getElem?_set_ne (Ne.symm hj)] at e2
        obtain ⟨u',r',q⟩ := hl j y v' e1 e2 e3
        refine ⟨u',r',?_⟩
        rcases q with ⟨k,e⟩ | ⟨k,c,e,z⟩
        · refine .inl ⟨k,?_⟩
          have : y ≠ x := fun e => hj (nodup_ix hN e1 (e ▸ hi))
          simp [this,e]
        · exact .inr ⟨k,c,e,z.sameBut hs (cne y c e)⟩
    · obtain ⟨w',z⟩ := I.cell y c e
      exact ⟨w',z.sameBut hs (cne y c e)⟩
    · obtain ⟨e,n,ne,nf,d⟩ := I.pin p hp
      exact ⟨(hs.2 p.1 ne).trans e,n,ne,nf,d⟩
  · have hfn : X.fn x = true := by
      rcases hf with z | z
      · exact z
      · rw [z] at hk; cases hk
    obtain ⟨c,hc⟩ := I.ok.has x (.inl hk)
    obtain ⟨w',z⟩ := I.cell x c hc
    refine wpAny_storeName_cell I.ok.kind hk hc z (fun h' hc' hs => ?_)
    obtain ⟨oc,hoc,hocd⟩ := id z
    refine h { s with heap := h' } ⟨I.ok,I.os,I.bare,⟨fun b o e n hb hx => ?_,fun b o e n hb hx => ?_,I.base.free,fun b o e hx => ?_,I.base.tups,I.base.frzs,I.base.tbls⟩,⟨m,hn.sameBut hs (Ne.symm (cne x c hc)),fun j y v' e1 e2 e3 => ?_⟩,fun y c' e => ?_,I.free,I.freeC,fun p hp => ?_,tracked ⟨oc,hoc,I.freeC x c hc⟩ hs,by simpa using I.len⟩ ⟨c,hs,.inr hc⟩
    · exact (hs.2 b (Nat.ne_of_lt (Nat.lt_of_lt_of_le (Heap.lt_size e) (I.ok.cab x c hfn hc)))).trans (I.base.keep b o e n hb hx)
    · obtain ⟨sl,e1⟩ := I.base.slot b o e n hb hx
      exact ⟨sl,(hs.2 b (Nat.ne_of_lt (Nat.lt_of_lt_of_le (Heap.lt_size e) (I.ok.cab x c hfn hc)))).trans e1⟩
    · obtain ⟨o',e1⟩ := I.base.there b o e hx
      exact ⟨o',(hs.2 b (Nat.ne_of_lt (Nat.lt_of_lt_of_le (Heap.lt_size e) (I.ok.cab x c hfn hc)))).trans e1⟩
    · by_cases hj : j = i
      · subst hj
        rw [hi] at e1; cases e1
        rw [List.getElem?_set_self hiσ] at e2
        cases e2
        exact ⟨u,r,.inr ⟨.inl hk,c,hc,hc'⟩⟩
      · rw [List.getElem?_set_ne (Ne.symm hj)] at e2
        obtain ⟨u',r',q⟩ := hl j y v' e1 e2 e3
        refine ⟨u',r',?_⟩
        rcases q with q | ⟨k,c',e,z'⟩
        · exact .inl q
        · refine .inr ⟨k,c',e,z'.sameBut hs ?_⟩
          rintro rfl
          exact hj (nodup_ix hN e1 (I.ok.inj _ _ _ e hc ▸ hi))
    · by_cases hcc : c' = c
      · subst hcc; exact ⟨_,hc'⟩
      · obtain ⟨w2,z2⟩ := I.cell y c' e
        exact ⟨w2,z2.sameBut hs hcc⟩
    · obtain ⟨e,n,ne,nf,d⟩ := I.pin p hp
      refine ⟨(hs.2 p.1 ?_).trans e,n,ne,nf,d⟩
      intro q
      rw [q,hoc] at e
      have q' : oc = p.2 := Option.some.inj e
      exact d w' (by rw [← q']; exact hocd)
theorem store_ok {M : Model} {A : Around} {E : Value → Shared → Prop} {i : Nat} {x : Str} {v : V} {u : Value} {Q : Unit → Shared → Prop} (I : Inv X pins σ H s) (hN : X.N.Nodup) (hi : X.N[i]? = some x) (hx : Loc X.env.scope x) (r : RelV v u)
    (h : ∀ s',Inv X pins (σ.set i (some v)) H s' → Q () s') (hf : X.fn x = true ∨ X.env.scope.names.lookup x = some .local := by first | exact .inl rfl | exact .inr rfl | assumption) : wpAny M A (storeName X.env x u) Q E s :=
  store_ok2 I hN hi hx r (fun s' I' _ => h s' I') hf
theorem Inv.call' {s' : Shared} {ch : List Addr} (I : Inv X pins σ H s) (ho : s'.os = s.os) (u : Un (frs X.stack) ch H H' s.heap s'.heap) (hok : HOk X.prog X.w H' s'.heap) (hg : AllBare s'.gens)
    (hch : ∀ b ∈ ch,(b ∈ X.ex ∨ X.s₀.heap.objs.size ≤ b) ∧ b ≠ X.env.locals ∧ (∀ x c,X.env.cells.lookup x = some c → c ≠ b) ∧ ∀ p ∈ X.pn ++ pins,p.1 ≠ b) : Inv X pins σ H' s' := by
  obtain ⟨h',g',d',t',o'⟩ := s'
  have e : o' = s.os := ho
  subst e
  exact I.call (g' := g') (t' := t') (d' := d') u hok hg hch
end
abbrev XK := Value → Option Addr → Hp → Prop
abbrev St := List (Option V)
abbrev VK := V → Hp → Prop
abbrev TE := St → Hp → VK → Prop
abbrev TT := St → Hp → (Bool → Hp → Prop) → Prop
abbrev TA := St → Hp → (List V → Hp → Prop) → Prop
structure Ends where
  nx : St → Hp → Prop
  rt : VK
  bk : St → Hp → Prop := fun _ _ => False
  ct : St → Hp → Prop := fun _ _ => False
abbrev TS := Ends → St → Hp → Prop
def EP (X : Cx) (pins : List (Addr × Obj)) (σ : St) (Q : VK) (u : Value) (s' : Shared) : Prop := ∃ v H',Inv X pins σ H' s' ∧ RelV v u ∧ Q v H'
def TP (X : Cx) (pins : List (Addr × Obj)) (σ : St) (Q : Bool → Hp → Prop) (b : Bool) (s' : Shared) : Prop := ∃ H',Inv X pins σ H' s' ∧ Q b H'
def AP (X : Cx) (pins : List (Addr × Obj)) (σ : St) (Q : List V → Hp → Prop) (us : List Value) (s' : Shared) : Prop := ∃ vs H',Inv X pins σ H' s' ∧ Vals vs us ∧ Q vs H'
def SP (X : Cx) (pins : List (Addr × Obj)) (D : Ends) (f : Flow) (s' : Shared) : Prop :=
  match f with
  | .next => ∃ σ' H',Inv X pins σ' H' s' ∧ D.nx σ' H'
  | .brk => ∃ σ' H',Inv X pins σ' H' s' ∧ D.bk σ' H'
  | .cont => ∃ σ' H',Inv X pins σ' H' s' ∧ D.ct σ' H'
  | .ret u => ∃ v σ' H',Inv X pins σ' H' s' ∧ RelV v u ∧ D.rt v H'
def PE (X : Cx) (e : Expr) (t : TE) : Prop :=
  ∀ (pins : List (Addr × Obj)) (s : Shared) (σ : St) (H : Hp) (Q : VK),Inv X pins σ H s → t σ H Q → wpAny (model X.prog X.w) X.A (eval e X.env) (EP X pins σ Q) X.xe s
def PT (X : Cx) (e : Expr) (t : TT) : Prop :=
  ∀ (pins : List (Addr × Obj)) (s : Shared) (σ : St) (H : Hp) (Q : Bool → Hp → Prop),Inv X pins σ H s → t σ H Q → wpAny (model X.prog X.w) X.A (isTrue e X.env (eval e X.env)) (TP X pins σ Q) X.xe s
def PW (X : Cx) (e : Expr) (t : TT) : Prop :=
  ∀ (whole : Sem Value) (pins : List (Addr × Obj)) (s : Shared) (σ : St) (H : Hp) (Q : Bool → Hp → Prop),Inv X pins σ H s → t σ H Q → wpAny (model X.prog X.w) X.A (isTrue e X.env whole) (TP X pins σ Q) X.xe s
theorem PW.pt {X : Cx} {e : Expr} {t : TT} (h : PW X e t) : PT X e t := h _
def PA (X : Cx) (es : List Expr) (t : TA) : Prop :=
  ∀ (pos : Pos) (pins : List (Addr × Obj)) (s : Shared) (σ : St) (H : Hp) (Q : List V → Hp → Prop),Inv X pins σ H s → t σ H Q → wpAny (model X.prog X.w) X.A (spliced (backTo pos (starEach es X.env))) (AP X pins σ Q) X.xe s
def PS (X : Cx) (st : Stmt) (t : TS) : Prop :=
  ∀ (pins : List (Addr × Obj)) (s : Shared) (σ : St) (H : Hp) (D : Ends),Inv X pins σ H s → t D σ H → wpAny (model X.prog X.w) X.A (exec st X.env) (SP X pins D) X.xe s
def PSs (X : Cx) (st : List Stmt) (t : TS) : Prop :=
  ∀ (pins : List (Addr × Obj)) (s : Shared) (σ : St) (H : Hp) (D : Ends),Inv X pins σ H s → t D σ H → wpAny (model X.prog X.w) X.A (execs st X.env) (SP X pins D) X.xe s
theorem thn {α : Type} {t : Sem α} {Q Q' : α → Shared → Prop} {M : Model} {A : Around} {E : Value → Shared → Prop} {s : Shared} (h : wpAny M A t Q E s) (hQ : ∀ a s,Q a s → Q' a s) : wpAny M A t Q' E s := wpAny_mono h hQ fun _ _ x => x
end L2
namespace L2
open PySem PySem.Spec PyProof.Rows
section
variable {X : Cx}
def tVar (i : Nat) : TE := fun σ H Q => ∃ v,σ[i]? = some (some v) ∧ Q v H
def tC (v : V) : TE := fun _ H Q => Q v H
theorem pe_var {i : Nat} {x : Str} {pos : Pos} (hN : X.N[i]? = some x) (hv : Vis X.env.scope x) (hd : (x == ("__debug__" : Str)) = false := by decide) (hcd : (x == ("__classdict__" : Str)) = false := by decide) : PE X (.Name x pos) (tVar i) := by
  intro pins s σ H Q I h
  obtain ⟨v,e,h⟩ := h
  obtain ⟨m,hn,hl⟩ := I.loc
  obtain ⟨u,r,l⟩ := hl i x v hN e hv
  have fin : EP X pins σ Q u s := ⟨v,H,I,r,h⟩
  rcases l with ⟨hk,hm⟩ | ⟨hk,c,hc,hcell⟩
  · exact wpAny_Name (wpAny_loadName_local I.ok.kind hk hn hm fin) hd
  · rcases hk with hk | hk
    · exact wpAny_Name (wpAny_loadName_cell I.ok.kind hk hc hcell fin) hd
    · exact wpAny_Name (wpAny_loadName_free I.ok.kind hk hc hcell fin hcd) hd
theorem pe_int {i j pos} : PE X (.Constant (.int i) j pos) (tC (.int i)) := fun _ _ _ H _ I h => wpAny_Constant_int ⟨.int i,H,I.tok _,⟨_,rfl⟩,h⟩
theorem pe_bl {b j pos} : PE X (.Constant (.bool b) j pos) (tC (.bl b)) := fun _ _ _ H _ I h => Constant_bool ⟨.bl b,H,I,rfl,h⟩
def Gl (X : Cx) (x : Str) : Prop := X.env.kindOf x = some .globalImplicit
theorem ld_glob {E : Value → Shared → Prop} {pins : List (Addr × Obj)} {s : Shared} {σ : St} {H : Hp} {x : Str} {u : Value} {pos : Pos} {Q : Value → Shared → Prop} (I : Inv X pins σ H s) (hg : Gl X x) (hm : X.mg x = some u) (h : Q u s)
    (hd : (x == ("__debug__" : Str)) = false := by decide) : wpAny (model X.prog X.w) X.A (eval (.Name x pos) X.env) Q E s :=
  Calls.Name_function_global I.ok.kind hg (Calls.loadGlobal_global (by rw [I.ok.glob]; exact I.mod.glob.keeps I.bk) hm h) hd
theorem ld_blt {E : Value → Shared → Prop} {pins : List (Addr × Obj)} {s : Shared} {σ : St} {H : Hp} {x : Str} {u : Value} {pos : Pos} {Q : Value → Shared → Prop} (I : Inv X pins σ H s) (hg : Gl X x) (hm : X.mg x = none) (hv : bootBuiltins x = some u) (h : Q u s)
    (hn : x ≠ "__name__" := by decide) (hd : (x == ("__debug__" : Str)) = false := by decide) : wpAny (model X.prog X.w) X.A (eval (.Name x pos) X.env) Q E s := by
  obtain ⟨mb,h1,h2⟩ := I.mod.blt
  exact Calls.Name_function_global I.ok.kind hg (Calls.loadGlobal_builtin (by rw [I.ok.glob]; exact I.mod.glob.keeps I.bk) hm (by rw [I.ok.blt]; exact h1.keeps I.bk) ((h2 x hn).trans hv) h) hd
theorem pe_bltn {x : Str} {v : V} {u : Value} {pos : Pos} (hg : Gl X x) (hm : X.mg x = none) (hv : bootBuiltins x = some u) (r : RelV v u) (hn : x ≠ "__name__" := by decide) (hd : (x == ("__debug__" : Str)) = false := by decide) : PE X (.Name x pos) (tC v) :=
  fun _ _ _ H _ I h => ld_blt I hg hm hv ⟨v,H,I,r,h⟩ hn hd
variable {a b : Expr} {ta tb : TE} {pos : Pos}
def PC (X : Cx) (op : CmpOp) (a b : Expr) (t : TE) : Prop :=
  ∀ (pins : List (Addr × Obj)) (s : Shared) (σ : St) (H : Hp) (Q : VK),Inv X pins σ H s → t σ H Q →
    wpAny (model X.prog X.w) X.A (eval a X.env) (fun v s₁ => wpAny (model X.prog X.w) X.A (eval b X.env) (fun u s₂ => wpAny (model X.prog X.w) X.A (compareOp op v u) (EP X pins σ Q) X.xe s₂) X.xe s₁) X.xe s
def tB (t : TE) : TT := fun σ H Q => t σ H fun x H1 => ∃ c,x = .bl c ∧ Q c H1
theorem pe_cmp {op : CmpOp} {t : TE} (h : PC X op a b t) (h1 : behindInMarks op b = false := by first | exact nobehind _ (by decide) (by decide) | rfl) : PE X (.Compare a [op] [b] pos) t := fun pins s σ H Q I hw => wpAny_Compare1 (h pins s σ H Q I hw) h1
theorem pt_val {e : Expr} {t : TE} (h : PE X e t) (he : ∀ whole,isTrue e X.env whole = (do let v ← whole; standAt e.pos; holding [v] (truthy v)) := by intro _; rfl) : PT X e (tB t) := by
  intro pins s σ H Q I hw
  refine isTrue_plain (thn (h pins s σ H _ I hw) fun v s1 ⟨x,H1,I1,r1,q1⟩ => ?_) (he _)
  obtain ⟨d,rfl,q⟩ := q1
  cases r1
  exact wpAny_truthy_bool ⟨H1,I1,q⟩
variable {tA tB' : TT} {rest : List Expr}
def tAnd (t u : TT) : TT := fun σ H Q => t σ H fun c H1 => if c = true then u σ H1 Q else Q false H1
def tOr (t u : TT) : TT := fun σ H Q => t σ H fun c H1 => if c = true then Q true H1 else u σ H1 Q
def tNot (t : TT) : TT := fun σ H Q => t σ H fun c H1 => Q (!c) H1
theorem pw_and1 (ha : PT X a tA) : PW X (.BoolOp .And [a] pos) tA := by
  intro wh pins s σ H Q I h
  refine isTrue_and (thn (ha pins s σ H Q I h) fun c s1 e => ?_)
  cases c with
  | true => exact isTrue_and_nil e
  | false => exact e
theorem pw_or1 (ha : PT X a tA) : PW X (.BoolOp .Or [a] pos) tA := by
  intro wh pins s σ H Q I h
  refine isTrue_or (thn (ha pins s σ H Q I h) fun c s1 e => ?_)
  cases c with
  | false => exact isTrue_or_nil e
  | true => exact e
theorem pw_and (ha : PT X a tA) (hb : PW X (.BoolOp .And (b :: rest) pos) tB') : PW X (.BoolOp .And (a :: b :: rest) pos) (tAnd tA tB') := by
  intro wh pins s σ H Q I h
  refine isTrue_and (thn (ha pins s σ H _ I h) fun c s1 ⟨H1,I1,q1⟩ => ?_)
  cases c with
  | true => exact hb wh pins s1 σ H1 Q I1 q1
  | false => exact ⟨H1,I1,q1⟩
theorem pw_or (ha : PT X a tA) (hb : PW X (.BoolOp .Or (b :: rest) pos) tB') : PW X (.BoolOp .Or (a :: b :: rest) pos) (tOr tA tB') := by
  intro wh pins s σ H Q I h
  refine isTrue_or (thn (ha pins s σ H _ I h) fun c s1 ⟨H1,I1,q1⟩ => ?_)
  cases c with
  | true => exact ⟨H1,I1,q1⟩
  | false => exact hb wh pins s1 σ H1 Q I1 q1
theorem pt_not (ha : PT X a tA) : PT X (.UnaryOp .Not a pos) (tNot tA) := by
  intro pins s σ H Q I h
  exact isTrue_not (ha pins s σ H (fun c H1 => Q (!c) H1) I h)
def tAndV (ta tb : TE) : TE := fun σ H Q => ta σ H fun x H1 => ∃ c,x = .bl c ∧ if c = true then tb σ H1 Q else Q (.bl false) H1
def tNotV (ta : TE) : TE := fun σ H Q => ta σ H fun x H1 => ∃ c,x = .bl c ∧ Q (.bl (!c)) H1
theorem pe_one {op} {t : TE} (h : PE X a t) : PE X (.BoolOp op [a] pos) t := fun pins s σ H Q I hw => BoolOp_one (h pins s σ H Q I hw)
theorem pe_and (ha : PE X a ta) (hb : PE X (.BoolOp .And (b :: rest) pos) tb) : PE X (.BoolOp .And (a :: b :: rest) pos) (tAndV ta tb) := by
  intro pins s σ H Q I h
  refine BoolOp_and (thn (ha pins s σ H _ I h) fun v s1 ⟨x,H1,I1,r1,q1⟩ => ?_)
  obtain ⟨c,rfl,q1⟩ := q1
  cases r1
  refine wpAny_truthy_bool ?_
  cases c with
  | true => exact hb pins s1 σ H1 Q I1 q1
  | false => exact ⟨.bl false,H1,I1,rfl,q1⟩
theorem pe_not (ha : PE X a ta) : PE X (.UnaryOp .Not a pos) (tNotV ta) := by
  intro pins s σ H Q I h
  refine UnaryOp_ (thn (ha pins s σ H _ I h) fun v s1 ⟨x,H1,I1,r1,q1⟩ => ?_)
  obtain ⟨c,rfl,q1⟩ := q1
  cases r1
  exact not_of (wpAny_truthy_bool ⟨.bl (!c),H1,I1,rfl,q1⟩)
end
end L2
namespace L2
open PySem PySem.Spec PyProof.Rows
def SqL (K : PySem.W.Frag) (H : Hp) (a : Addr) (xs : List V) : Prop :=
  Rd H a (.lst xs) ∨
    ∃ (o : Obj) (its : Array Value) (n : Nat),K.lookup a = some o ∧ o.cls = .type "list" ∧ o.dict = none ∧ o.data = .seq its n ∧ its.size ≤ sizeLine ∧ Vals xs its.toList
def SqT (K : PySem.W.Frag) (H : Hp) (a : Addr) (xs : List V) : Prop :=
  Rd H a (.tup xs) ∨
    ∃ (o : Obj) (its : Array Value) (n : Nat),K.lookup a = some o ∧ o.cls = .type "tuple" ∧ o.data = .seq its n ∧ its.size ≤ sizeLine ∧ Vals xs its.toList
def absV : Value → Option V
  | .none => some .non
  | .bool b => some (.bl b)
  | .int i _ => some (.int i)
  | .str x _ => some (.str x)
  | .bytes b _ => some (.byt b)
  | .float b _ => some (.flt b)
  | .ref a => some (.ref a)
  | .type n => some (.ty n)
  | _ => none
theorem RelV.abs {x : V} {u : Value} (r : RelV x u) : absV u = some x := by
  cases x with
  | non => cases r; rfl
  | bl _ => cases r; rfl
  | int _ => obtain ⟨t,rfl⟩ := r; rfl
  | str _ => obtain ⟨t,rfl⟩ := r; rfl
  | byt _ => obtain ⟨t,rfl⟩ := r; rfl
  | flt _ => obtain ⟨t,rfl⟩ := r; rfl
  | ref _ => cases r; rfl
  | ty _ => cases r; rfl
theorem RelV.inj {x y : V} {u : Value} (r : RelV x u) (q : RelV y u) : x = y := Option.some.inj (r.abs.symm.trans q.abs)
theorem Vals.inj : ∀ {xs ys : List V} {us : List Value},Vals xs us → Vals ys us → xs = ys
  | _,_,_,.nil,.nil => rfl
  | _,_,_,.cons r t,.cons r' t' => by rw [r.inj r',Vals.inj t t']
section
variable {X : Cx} {pins : List (Addr × Obj)} {σ : St} {H : Hp} {s : Shared} {a : Addr} {xs ys : List V}
theorem SqL.of {K : PySem.W.Frag} (h : H a = some (.lst xs)) : SqL K H a xs := .inl (.inl h)
theorem SqT.of {K : PySem.W.Frag} (h : H a = some (.tup xs)) : SqT K H a xs := .inl (.inl h)
theorem Inv.list (I : Inv X pins σ H s) (h : SqL X.K H a xs) : ∃ its : List Value,Vals xs its ∧ PlainL s.heap a its.toArray ∧ xs.length ≤ sizeLine := by
  rcases h with h | ⟨o,its,n,hk,hc,hd,hs,hz,r⟩
  · obtain ⟨z,its,n,r,e⟩ := h.ok I.hok
    exact ⟨its,r,⟨_,n,e,rfl,rfl,rfl⟩,z⟩
  · refine ⟨its.toList,r,⟨o,n,I.kIn a o hk,hc,hd,by simpa using hs⟩,?_⟩
    have e := r.length
    simp only [Array.length_toList] at e
    omega
theorem Inv.tuple (I : Inv X pins σ H s) (h : SqT X.K H a xs) : ∃ its : List Value,Vals xs its ∧ IsTup s.heap a its.toArray ∧ xs.length ≤ sizeLine := by
  rcases h with h | ⟨o,its,n,hk,hc,hs,hz,r⟩
  · obtain ⟨z,its,r,p⟩ := h.ok I.hok
    exact ⟨its,r,p,z⟩
  · refine ⟨its.toList,r,⟨o,I.kIn a o hk,hc,n,by simpa using hs⟩,?_⟩
    have e := r.length
    simp only [Array.length_toList] at e
    omega
theorem Inv.list_inj (I : Inv X pins σ H s) (h : SqL X.K H a xs) (h' : SqL X.K H a ys) : xs = ys := by
  obtain ⟨its,r,⟨o,n,e,_,_,d⟩,_⟩ := I.list h
  obtain ⟨its',r',⟨o',n',e',_,_,d'⟩,_⟩ := I.list h'
  rw [e] at e'; cases e'
  rw [d] at d'
  injection d' with d1 _
  have : its = its' := by simpa using congrArg Array.toList d1
  subst this
  exact r.inj r'
end
abbrev Cx.wish (X : Cx) (E : Value → Shared → Prop) : Cx := { X with xe := E }
abbrev Cx.nox (X : Cx) : Cx := X.wish fun _ _ => False
theorem Cx.Ok.wish {X : Cx} (ok : X.Ok) (E : Value → Shared → Prop) : (X.wish E).Ok :=
  ⟨ok.mod,ok.kind,ok.glob,ok.blt,ok.above,ok.inj,ok.has,ok.cab,ok.hd,ok.frames,ok.stk,ok.exf,ok.bs,ok.bsz,ok.noex,ok.exfs,ok.funs,ok.frf⟩
theorem Cx.Ok.unwish {X : Cx} {E : Value → Shared → Prop} (ok : (X.wish E).Ok) : X.Ok :=
  ⟨ok.mod,ok.kind,ok.glob,ok.blt,ok.above,ok.inj,ok.has,ok.cab,ok.hd,ok.frames,ok.stk,ok.exf,ok.bs,ok.bsz,ok.noex,ok.exfs,ok.funs,ok.frf⟩
section
variable {X : Cx} {pins : List (Addr × Obj)} {σ : St} {H : Hp} {s : Shared} {E : Value → Shared → Prop}
theorem Inv.wish (I : Inv X pins σ H s) (E : Value → Shared → Prop) : Inv (X.wish E) pins σ H s := ⟨I.ok.wish E,I.os,I.bare,I.base,I.loc,I.cell,I.free,I.freeC,I.pin,I.hok,I.len⟩
theorem Inv.unwish (I : Inv (X.wish E) pins σ H s) : Inv X pins σ H s := ⟨I.ok.unwish,I.os,I.bare,I.base,I.loc,I.cell,I.free,I.freeC,I.pin,I.hok,I.len⟩
theorem SP.unwish {D : Ends} {f : Flow} {s' : Shared} (h : SP (X.wish E) pins D f s') : SP X pins D f s' := by
  cases f with
  | next => obtain ⟨σ',H',I,q⟩ := h; exact ⟨σ',H',I.unwish,q⟩
  | brk => obtain ⟨σ',H',I,q⟩ := h; exact ⟨σ',H',I.unwish,q⟩
  | cont => obtain ⟨σ',H',I,q⟩ := h; exact ⟨σ',H',I.unwish,q⟩
  | ret u => obtain ⟨v,σ',H',I,r,q⟩ := h; exact ⟨v,σ',H',I.unwish,r,q⟩
theorem PSs.nox {st : List Stmt} {t : TS} (h : PSs X.nox st t) : PSs X st t := fun pins s σ H D I hw =>
  wpAny_mono (h pins s σ H D (I.wish _) hw) (fun _ _ q => q.unwish) fun _ _ z => False.elim z
end
section
variable {X : Cx} {st : Stmt} {rest : List Stmt} {t u : TS} {e : Expr} {te : TE} {pos : Pos}
def tNext : TS := fun D σ H => D.nx σ H
def tSeq (t u : TS) : TS := fun D σ H => t { D with nx := u D } σ H
theorem pss_nil : PSs X [] tNext := fun _ _ σ H _ I h => wpAny_execs_nil ⟨σ,H,I,h⟩
theorem pss_cons (h1 : PS X st t) (h2 : PSs X rest u) : PSs X (st :: rest) (tSeq t u) := by
  intro pins s σ H D I h
  refine wpAny_execs_cons (thn (h1 pins s σ H { D with nx := u D } I h) fun f s1 q => ?_)
  cases f with
  | next =>
    obtain ⟨σ',H',I',q⟩ := q
    exact h2 pins s1 σ' H' D I' q
  | ret v => exact q
  | brk => exact q
  | cont => exact q
theorem pss_one (h1 : PS X st t) : PSs X [st] t := by
  intro pins s σ H D I h
  refine wpAny_execs_cons (thn (h1 pins s σ H D I h) fun f s1 q => ?_)
  cases f with
  | next => exact wpAny_execs_nil q
  | ret v => exact q
  | brk => exact q
  | cont => exact q
theorem Inv.quiet {pins : List (Addr × Obj)} {σ : St} {H : Hp} {s : Shared} (I : Inv X pins σ H s) : interactive X.env = false := by simp [interactive,I.ok.kind]
def tDrop (te : TE) : TS := fun D σ H => te σ H fun _ H1 => D.nx σ H1
theorem ps_expr (he : PE X e te) (hs : swapsWith e none pos.line X.env = pure false := by rfl) : PS X (.Expr e pos) (tDrop te) := by
  intro pins s σ H D I h
  exact wpAny_Expr_any (thn (he pins s σ H _ I h) fun v s1 ⟨x,H1,I1,r1,q1⟩ => ⟨σ,H1,I1,q1⟩) I.quiet hs
def tRet (te : TE) : TS := fun D σ H => te σ H D.rt
theorem ps_ret (he : PE X e te) : PS X (.Return (some e) pos) (tRet te) := by
  intro pins s σ H D I h
  exact wpAny_Return_some (thn (he pins s σ H _ I h) fun v s1 ⟨x,H1,I1,r1,q1⟩ => ⟨x,σ,H1,I1,r1,q1⟩)
def tIfS (c : TT) (t u : TS) : TS := fun D σ H => c σ H fun b H1 => if b = true then t D σ H1 else u D σ H1
theorem ps_if {c : Expr} {a b : List Stmt} {tc : TT} (hc : PT X c tc) (ha : PSs X a t) (hb : PSs X b u) : PS X (.If c a b pos) (tIfS tc t u) := by
  intro pins s σ H D I h
  refine wpAny_If (thn (hc pins s σ H _ I h) fun d s1 ⟨H1,I1,q1⟩ => ?_)
  cases d with
  | true => exact ha pins s1 σ H1 D I1 q1
  | false => exact hb pins s1 σ H1 D I1 q1
end
abbrev TG := V → St → Hp → (St → Hp → Prop) → Prop
abbrev TGs := List V → St → Hp → (St → Hp → Prop) → Prop
def PG (X : Cx) (target : Expr) (t : TG) : Prop :=
  ∀ (pins : List (Addr × Obj)) (s : Shared) (σ : St) (H : Hp) (v : V) (u : Value) (Q : St → Hp → Prop),Inv X pins σ H s → RelV v u → t v σ H Q →
    wpAny (model X.prog X.w) X.A (assign target X.env u) (fun _ s' => ∃ σ' H',Inv X pins σ' H' s' ∧ Q σ' H') X.xe s
def PGs (X : Cx) (ts : List Expr) (t : TGs) : Prop :=
  ∀ (pins : List (Addr × Obj)) (s : Shared) (σ : St) (H : Hp) (vs : List V) (us : List Value) (Q : St → Hp → Prop),Inv X pins σ H s → Vals vs us → t vs σ H Q →
    wpAny (model X.prog X.w) X.A (assignInOrder ((assignEach ts X.env).map (·.2)) us) (fun _ s' => ∃ σ' H',Inv X pins σ' H' s' ∧ Q σ' H') X.xe s
abbrev TSet := V → V → V → Hp → (Hp → Prop) → Prop
def PSet (X : Cx) (t : TSet) : Prop :=
  ∀ (pins : List (Addr × Obj)) (s : Shared) (σ : St) (H : Hp) (o i v : V) (ov iv u : Value) (Q : Hp → Prop),Inv X pins σ H s → RelV o ov → RelV i iv → RelV v u → t o i v H Q →
    wpAny (model X.prog X.w) X.A (setItem ov iv u) (fun _ s' => ∃ H',Inv X pins σ H' s' ∧ Q H') X.xe s
section
variable {X : Cx} {pos : Pos}
def gName (i : Nat) : TG := fun v σ H Q => Q (σ.set i (some v)) H
theorem pg_name {i : Nat} {x : Str} (hN : X.N.Nodup) (hi : X.N[i]? = some x) (hx : Loc X.env.scope x) (hf : X.fn x = true ∨ X.env.scope.names.lookup x = some .local := by first | exact .inl rfl | exact .inr rfl | assumption) : PG X (.Name x pos) (gName i) := by
  intro pins s σ H v u Q I r h
  exact wpAny_assign_Name (store_ok I hN hi hx r (fun s' I' => ⟨_,H,I',h⟩) hf)
def gNil : TGs := fun vs σ H Q => vs = [] ∧ Q σ H
def gCons (t : TG) (u : TGs) : TGs := fun vs σ H Q => ∃ v r,vs = v :: r ∧ t v σ H fun σ' H' => u r σ' H' Q
theorem pgs_nil : PGs X [] gNil := by
  intro pins s σ H vs us Q I r h
  obtain ⟨e,h⟩ := h
  subst e
  cases r
  exact assignInOrder_nil ⟨σ,H,I,h⟩
theorem pgs_cons {e : Expr} {es : List Expr} {t : TG} {u : TGs} (h1 : PG X e t) (h2 : PGs X es u)
    (hs : (assignEach (e :: es) X.env).map (·.2) = assign e X.env :: (assignEach es X.env).map (·.2) := by rfl) : PGs X (e :: es) (gCons t u) := by
  intro pins s σ H vs us Q I r h
  obtain ⟨v,vr,e1,h⟩ := h
  subst e1
  cases r with
  | cons r rr =>
    rw [hs]
    refine assignInOrder_cons (thn (h1 pins s σ H _ _ _ I r h) fun _ s1 ⟨σ1,H1,I1,q1⟩ => ?_)
    exact h2 pins s1 σ1 H1 _ _ Q I1 rr q1
def gTup (K : PySem.W.Frag) (n : Nat) (t : TGs) : TG := fun v σ H Q => ∃ a xs,v = .ref a ∧ SqT K H a xs ∧ xs.length = n ∧ t xs σ H Q
theorem pg_tup {es : List Expr} {k : Nat} {t : TGs} {n : Nat} (hc : X.calm = true) (h : PGs X es t)
    (hn : (assignEach es X.env).length = n := by rfl) (hst : (assignEach es X.env).findIdx? (·.1) = none := by rfl) : PG X (.Tuple es k pos) (gTup X.K n t) := by
  intro pins s σ H v u Q I r hw
  obtain ⟨a,xs,e1,hq,hl,hw⟩ := hw
  subst e1
  cases r
  obtain ⟨its,rv,ht,hz⟩ := I.tuple hq
  refine assign_Tuple_tuple (I.ok.hd hc) ht (by simp [hn,← hl,rv.length]) hst fun h' hx => ?_
  have I1 : Inv X pins σ H { s with heap := h' } := I.kept (t' := s.toks) fun b o e => hx b o (Nat.ne_of_lt (Heap.lt_size e)) e
  exact h pins _ σ H xs _ Q I1 (by simpa using rv) hw
def gSub (to ti : TE) (t : TSet) : TG := fun v σ H Q => to σ H fun o H1 => ti σ H1 fun i H2 => t o i v H2 fun H3 => Q σ H3
theorem pg_sub {o i : Expr} {to ti : TE} {t : TSet} (ho : PE X o to) (hi : PE X i ti) (hs : PSet X t)
    (ha : ∀ v,assign (.Subscript o i pos) X.env v = (do
      let ov ← holding [v] (eval o X.env)
      let iv ← holding [v,ov] (eval i X.env)
      standAt pos
      holding [v,ov,iv] (setItem ov iv v)
      release [v,ov,iv] []) := by intro _; rfl) : PG X (.Subscript o i pos) (gSub to ti t) := by
  intro pins s σ H v u Q I r h
  rw [ha]
  refine wpAny_bind (wpAny_holding (thn (ho pins s σ H _ I h) fun ov s1 ⟨x,H1,I1,r1,q1⟩ => ?_))
  refine wpAny_bind (wpAny_holding (thn (hi pins s1 σ H1 _ I1 q1) fun iv s2 ⟨y,H2,I2,r2,q2⟩ => ?_))
  refine wpAny_bind (wpAny_standAt (wpAny_bind (wpAny_holding (thn (hs pins s2 σ H2 x y v ov iv u _ I2 r1 r2 r q2) fun _ s3 ⟨H3,I3,q3⟩ => ?_))))
  exact wpAny_release ⟨σ,H3,I3,q3⟩
def tAsg (te : TE) (g : TG) : TS := fun D σ H => te σ H fun x H1 => g x σ H1 D.nx
theorem ps_asg {tg e : Expr} {te : TE} {g : TG} (he : PE X e te) (hg : PG X tg g) (hs : swapsWithSole [tg] e pos.line X.env = pure false := by rfl) (hw : swappedStores [tg] e X.env = pure none := by rfl)
    (h1 : (assignEach [tg] X.env).map (·.2) = [assign tg X.env] := by rfl) : PS X (.Assign [tg] e pos) (tAsg te g) := by
  intro pins s σ H D I h
  refine wpAny_Assign_stores (thn (he pins s σ H _ I h) fun v s1 ⟨x,H1,I1,r1,q1⟩ => ?_) hs hw
  rw [h1]
  exact thn (hg pins s1 σ H1 x v _ I1 r1 q1) fun _ s2 q => q
theorem ps_set {i : Nat} {x : Str} {e : Expr} {te : TE} {pos' : Pos} (hN : X.N.Nodup) (hi : X.N[i]? = some x) (hx : Loc X.env.scope x) (he : PE X e te) (hs : swapsWith e (some (.Name x pos')) pos.line X.env = pure false := by rfl) (hf : X.fn x = true ∨ X.env.scope.names.lookup x = some .local := by first | exact .inl rfl | exact .inr rfl | assumption) :
    PS X (.Assign [.Name x pos'] e pos) (tAsg te (gName i)) := by
  intro pins s σ H D I h
  refine wpAny_Assign_Name (thn (he pins s σ H _ I h) fun v s1 ⟨y,H1,I1,r1,q1⟩ => ?_) hs
  exact store_ok I1 hN hi hx r1 (fun s2 I2 => ⟨_,H1,I2,q1⟩) hf
def tPar (i j : Nat) (ta : TA) : TS := fun D σ H => ta σ H fun vs H1 => ∃ v w,vs = [v,w] ∧ D.nx ((σ.set i (some v)).set j (some w)) H1
theorem ps_par {i j : Nat} {x y : Str} {a b : Expr} {ta : TA} {px py pt : Pos} {kt k2 pt2} (hc : X.calm = true) (hN : X.N.Nodup) (hi : X.N[i]? = some x) (hj : X.N[j]? = some y) (hij : i ≠ j)
    (hx : X.env.scope.names.lookup x = some .local) (hy : X.env.scope.names.lookup y = some .local) (ha : PA X [a,b] ta)
    (hw : swappedStores [.Tuple [.Name x px,.Name y py] kt pt] (.Tuple [a,b] k2 pt2) X.env = pure (some [x,y]))
    (hs : swapsWithSole [.Tuple [.Name x px,.Name y py] kt pt] (.Tuple [a,b] k2 pt2) pos.line X.env = pure false := by rfl) :
    PS X (.Assign [.Tuple [.Name x px,.Name y py] kt pt] (.Tuple [a,b] k2 pt2) pos) (tPar i j ta) := by
  intro pins s σ H D I h
  rw [exec_Assign_arm]
  refine wpAny_bind (wpAny_standAt ?_)
  rw [hs]
  refine wpAny_bind (wpAny_pure ?_)
  rw [if_neg (by decide)]
  refine wpAny_bind (Tuple_ (thn (ha _ pins s σ H _ I h) fun us s1 ⟨vs,H1,I1,r1,q1⟩ => ?_))
  obtain ⟨v,w,e1,q1⟩ := q1
  subst e1
  obtain ⟨u1,u2,rfl,rv,rw'⟩ : ∃ u1 u2,us = [u1,u2] ∧ RelV v u1 ∧ RelV w u2 := by
    cases r1 with
    | cons p q =>
      cases q with
      | cons p' q' =>
        cases q'
        exact ⟨_,_,rfl,p,p'⟩
  refine wpAny_newObj_type ?_ (by show 2 ≤ sizeLine; decide)
  have I2 : Inv X pins σ H1 { s1 with heap := s1.heap.push { cls := .type "tuple",data := .seq [u1,u2].toArray } } := I1.kept (t' := s1.toks) fun b o e => Heap.get?_push_of_some _ e
  rw [hw]
  refine wpAny_bind (wpAny_pure ?_)
  show wpAny (model X.prog X.w) X.A (do rule "assign.swapped-stores"; let items ← unpackItems (.ref s1.heap.objs.size) 2 none; assignInOrder [fun v => bindName X.env y v,fun v => bindName X.env x v] items.reverse; pure Flow.next) _ _ _
  refine wpAny_bind (wpAny_rule (wpAny_bind (unpackItems_tuple (items := #[u1,u2]) (I.ok.hd hc) (IsTup.new s1.heap _) fun h' hx' => ?_)))
  have I3 := I2.kept (h' := h') (t' := s1.toks) fun b o e => hx' b o (Nat.ne_of_lt (Heap.lt_size e)) e
  show wpAny _ _ (assignInOrder [fun v => bindName X.env y v,fun v => bindName X.env x v] [u2,u1] >>= fun _ => pure Flow.next) _ _ _
  refine wpAny_bind (assignInOrder_cons (wpAny_bindName (store_ok I3 hN hj (.inl hy) rw' (fun s2 I4 => ?_) (.inr hy))))
  refine assignInOrder_cons (wpAny_bindName (store_ok I4 hN hi (.inl hx) rv (fun s3 I5 => assignInOrder_nil (wpAny_pure ?_)) (.inr hx)))
  rw [List.set_comm _ _ (Ne.symm hij)] at I5
  exact ⟨_,H1,I5,q1⟩
end
section
variable {X : Cx} {pos : Pos}
def tWhile (c : TT) (tb : TS) : TS := fun D σ H => ∃ W : Nat → St → Hp → Prop,(∃ m,W m σ H) ∧ ∀ m σ H,W m σ H →
  c σ H fun b H1 => if b = true then ∃ N : St → Hp → Prop,(∀ σ' H',N σ' H' → ∃ m',m' < m ∧ W m' σ' H') ∧ tb { D with nx := N,ct := N,bk := D.nx } σ H1 else D.nx σ H1
theorem ps_while {c : Expr} {body : List Stmt} {tc : TT} {tb : TS} (hp : PassesOwn (model X.prog X.w) X.A X.env X.xe) (hc : PT X c tc) (hb : PSs X body tb) : PS X (.While c body [] pos) (tWhile tc tb) := by
  intro pins s σ H D I h
  obtain ⟨W,⟨m0,w0⟩,turn⟩ := h
  refine wpAny_While (codeAny_whileLoop (fun n s' => ∃ σ' H',Inv X pins σ' H' s' ∧ W n σ' H') ?_ m0 ⟨σ,H,I,w0⟩)
  rintro n s1 ⟨σ1,H1,I1,w1⟩
  refine wpAny_passesOwn hp (thn (hc pins s1 σ1 H1 _ I1 (turn n σ1 H1 w1)) fun b s2 ⟨H2,I2,q2⟩ => ?_)
  cases b with
  | true =>
    obtain ⟨N,hN,q2⟩ := q2
    rw [if_pos rfl]
    refine wpAny_passesOwn hp (thn (hb pins s2 σ1 H2 _ I2 q2) fun f s3 q3 => ?_)
    cases f with
    | next =>
      obtain ⟨σ3,H3,I3,n3⟩ := q3
      obtain ⟨m',hm,w3⟩ := hN σ3 H3 n3
      exact ⟨m',hm,σ3,H3,I3,w3⟩
    | cont =>
      obtain ⟨σ3,H3,I3,n3⟩ := q3
      obtain ⟨m',hm,w3⟩ := hN σ3 H3 n3
      exact ⟨m',hm,σ3,H3,I3,w3⟩
    | brk => exact q3
    | ret v => exact q3
  | false =>
    rw [if_neg Bool.false_ne_true]
    exact wpAny_execs_nil ⟨σ1,H2,I2,q2⟩
end
structure It where
  go : Nat → Hp → Prop
  yld : Nat → Hp → V → Hp → Prop
  stop : Nat → Hp → Prop
def FpOk (X : Cx) (pins : List (Addr × Obj)) (H : Hp) (b : Addr) : Prop :=
  H b = none ∧ b ≠ X.env.locals ∧ b ∉ X.fs ∧ (b ∈ X.ex ∨ X.s₀.heap.objs.size ≤ b) ∧ (∀ x c,X.env.cells.lookup x = some c → c ≠ b) ∧ ∀ p ∈ X.pn ++ pins,p.1 ≠ b
theorem Inv.fpOk {X : Cx} {pins : List (Addr × Obj)} {σ : St} {H H' : Hp} {s : Shared} {b : Addr} (I : Inv X pins σ H s) (hb : s.heap.objs.size ≤ b) (hn : H' b = none) : FpOk X pins H' b := by
  refine ⟨hn,Nat.ne_of_gt (Nat.lt_of_lt_of_le I.lt hb),I.nofs hb,.inr (Nat.le_trans I.sz hb),fun x c e z => ?_,fun p hp z => ?_⟩
  · obtain ⟨v,q⟩ := I.cell x c e
    exact absurd (Nat.lt_of_lt_of_le q.lt (by rw [z]; exact hb)) (Nat.lt_irrefl _)
  · exact absurd (Nat.lt_of_lt_of_le (Heap.lt_size (I.pin p hp).1) (by rw [z]; exact hb)) (Nat.lt_irrefl _)
structure Turn (P : Program) (w : World) (K : PySem.W.Frag) (tg : Expr) (J : It) (fp : List Addr) (it : Addr) (tn : Nat → Heap → Prop) : Prop where
  mem : it ∈ fp
  obj : ∀ i h,tn i h → ∀ b ∈ fp,∃ o,h.get? b = some o ∧ ∀ v,o.data ≠ .cell v
  keep : ∀ i h h',tn i h → (∀ b ∈ fp,∀ o,h.get? b = some o → h'.get? b = some o) → tn i h'
  item : ∀ (X : Cx),X.prog = P → X.w = w → X.K = K → X.calm = true → ∀ (i : Nat) (pins : List (Addr × Obj)) (s : Shared) (σ : St) (H : Hp) (E : Value → Shared → Prop),Inv X pins σ H s → (∀ b ∈ fp,FpOk X pins H b) → tn i s.heap → J.go i H →
    wpAny (model P w) X.A (pyNext (.ref it)) (fun r s1 => ∃ u,r = some u ∧
      wpAny (model P w) X.A (letOwnedTupleGo tg (.ref it) u) (fun _ s2 => ∃ x H',Inv X pins σ H' s2 ∧ RelV x u ∧ J.yld i H x H' ∧ tn (i + 1) s2.heap ∧ ∀ b ∈ fp,H' b = none) E s1) E s
  done : ∀ (X : Cx),X.prog = P → X.w = w → X.K = K → X.calm = true → ∀ (i : Nat) (pins : List (Addr × Obj)) (s : Shared) (σ : St) (H : Hp) (E : Value → Shared → Prop),Inv X pins σ H s → (∀ b ∈ fp,FpOk X pins H b) → tn i s.heap → J.stop i H →
    wpAny (model P w) X.A (pyNext (.ref it)) (fun r s1 => r = none ∧ Inv X pins σ H s1) E s
  self : ∀ (A : Around) (i : Nat) (s : Shared) (Q : Value → Shared → Prop) (E : Value → Shared → Prop),tn i s.heap → Q (.ref it) s → wpAny (model P w) A (pyIter (.ref it)) Q E s
abbrev TI := St → Hp → (It → Hp → Prop) → Prop
def PIE (X : Cx) (pins : List (Addr × Obj)) (σ : St) (tg : Expr) (R : It → Hp → Prop) (itv : Value) (s2 : Shared) : Prop :=
  ∃ (it : Addr) (fp : List Addr) (tn : Nat → Heap → Prop) (J : It) (H' : Hp),itv = .ref it ∧ Inv X pins σ H' s2 ∧ Turn X.prog X.w X.K tg J fp it tn ∧ tn 0 s2.heap ∧ (∀ b ∈ fp,FpOk X pins H' b) ∧ R J H'
def PI (X : Cx) (tg iter : Expr) (wi : TI) : Prop :=
  ∀ (pins : List (Addr × Obj)) (s : Shared) (σ : St) (H : Hp) (R : It → Hp → Prop),Inv X pins σ H s → wi σ H R →
    wpAny (model X.prog X.w) X.A (eval iter X.env) (fun v s1 => wpAny (model X.prog X.w) X.A (pyIter v) (PIE X pins σ tg R) X.xe s1) X.xe s
theorem go_of {M : Model} {A : Around} {E : Value → Shared → Prop} {s : Shared} {tg : Expr} {it : Addr} {u : Value} {o : Obj} {n : String} {vs : Array Value} {Q : Unit → Shared → Prop} (ho : s.heap.get? it = some o) (hc : o.cls = .type n) (hd : o.data = .fields vs)
    (hn : ["enumerate","zip","dict_itemiterator","dict_reverseitemiterator","odict_iterator","itertools.zip_longest","itertools.pairwise"].contains n = false) (hQ : Q () s) : wpAny M A (letOwnedTupleGo tg (.ref it) u) Q E s := by
  unfold letOwnedTupleGo
  cases tg <;> first
    | exact wpAny_pure hQ
    | (cases u <;> first
        | exact wpAny_pure hQ
        | (refine wpAny_bind (wpAny_load ho ?_)
           rw [hc,hd]
           show wpAny M A (if (["enumerate","zip","dict_itemiterator","dict_reverseitemiterator","odict_iterator","itertools.zip_longest","itertools.pairwise"].contains n && vs[0]? == some (rawInt _)) = true then _ else _) Q E s
           rw [if_neg (by intro h; rw [hn,Bool.false_and] at h; cases h)]
           exact wpAny_pure hQ))
def Itl (K : PySem.W.Frag) (a : Addr) : It :=
  ⟨fun i H => ∃ xs x,SqL K H a xs ∧ xs[i]? = some x,fun i H x H' => H' = H ∧ ∀ xs,SqL K H a xs → xs[i]? = some x,fun i H => ∃ xs,SqL K H a xs ∧ xs.length ≤ i⟩
def Itr (lo : Int) (n : Nat) : It := ⟨fun i _ => i < n,fun i H x H' => H' = H ∧ x = .int (lo + i),fun i _ => n ≤ i⟩
theorem turn_list {P : Program} {w : World} {K : PySem.W.Frag} {tg : Expr} (a it : Addr) : Turn P w K tg (Itl K a) [it] it (fun i h => h.IsListIter it a i) where
  mem := by simp
  obj := fun i h st b hb => by
    have e : b = it := by simpa using hb
    subst e
    obtain ⟨o,e,c,d⟩ := st
    exact ⟨o,e,fun v z => by rw [d] at z; cases z⟩
  keep := fun i h h' st k => st.at fun o e => k it (by simp) o e
  item := by
    intro X hP hw hK hc i pins s σ H E I hf st hg
    subst hP hw hK
    obtain ⟨xs,x,hq,hx⟩ := hg
    obtain ⟨its,rv,p,hz⟩ := I.list hq
    obtain ⟨u,hu,ru⟩ := rv.get hx
    obtain ⟨f0,f1,f2,f3,f4,f5⟩ := hf it (by simp)
    refine wpAny_pyNext_list_item st p.isList (x := u) (by simpa using hu) fun h' st' sb => ?_
    have I1 : Inv X pins σ H { s with heap := h' } := I.turned (t' := s.toks) (fun b o hb e => (sb.2 b hb).trans e) f0 f1 f3 f4 f5
    obtain ⟨o,e,c,d⟩ := id st'
    exact ⟨u,rfl,go_of (s := { s with heap := h' }) e c d (by decide) ⟨x,H,I1,ru,⟨rfl,fun ys hy => by rw [I.list_inj hy hq]; exact hx⟩,st',fun b hb => (hf b hb).1⟩⟩
  done := by
    intro X hP hw hK hc i pins s σ H E I hf st hg
    subst hP hw hK
    obtain ⟨xs,hq,hx⟩ := hg
    obtain ⟨its,rv,p,hz⟩ := I.list hq
    obtain ⟨f0,f1,f2,f3,f4,f5⟩ := hf it (by simp)
    have hl := rv.length
    exact wpAny_pyNext_list_end (I.ok.hd hc) st p.isList (by simp; omega) fun h' eb => ⟨rfl,I.turned (t' := s.toks) (fun b o hb e => eb b o hb e) f0 f1 f3 f4 f5⟩
  self := fun _ _ _ _ _ st h => wpAny_pyIter_listiter st h
theorem turn_range {P : Program} {w : World} {K : PySem.W.Frag} {tg : Expr} (it : Addr) (lo : Int) (n : Nat) : Turn P w K tg (Itr lo n) [it] it (fun i h => IsRangeIter h it (lo + (i : Nat) * 1) ((n : Int) - (i : Nat)) 1) where
  mem := by simp
  obj := fun i h st b hb => by
    have e : b = it := by simpa using hb
    subst e
    exact ⟨_,st,fun v z => by
      have z' : Data.fields _ = Data.cell v := z
      cases z'⟩
  keep := fun i h h' st k => k it (by simp) _ st
  item := by
    intro X hP hw hK hc i pins s σ H E I hf st hg
    subst hP hw hK
    obtain ⟨f0,f1,f2,f3,f4,f5⟩ := hf it (by simp)
    have W := Walks.range (prog := X.prog) (w := X.w) (I.ok.hd hc) it lo 1 n
    refine W.item i s _ _ hg st fun v h' tk hv st' kk => ?_
    obtain ⟨t,rfl⟩ := hv
    have I1 : Inv X pins σ H { s with heap := h',toks := tk } := I.turned (fun b o hb e => kk b o (by simpa using hb) e) f0 f1 f3 f4 f5
    refine ⟨_,rfl,go_of (s := { s with heap := h',toks := tk }) (n := "range_iterator") st' rfl rfl (by decide) ⟨.int (lo + i),H,I1,⟨t,?_⟩,⟨rfl,rfl⟩,st',fun b hb => (hf b hb).1⟩⟩
    rw [Int.mul_one]
  done := by
    intro X hP hw hK hc i pins s σ H E I hf st hg
    subst hP hw hK
    obtain ⟨f0,f1,f2,f3,f4,f5⟩ := hf it (by simp)
    exact wpAny_pyNext_range_end (I.ok.hd hc) st (by have : n ≤ i := hg; omega) fun h' eb => ⟨rfl,I.turned (t' := s.toks) (fun b o hb e => eb b o hb e) f0 f1 f3 f4 f5⟩
  self := fun _ _ _ _ _ st h => wpAny_pyIter_rangeiter st h
end L2
namespace L2
open PySem PySem.Spec PyProof.Rows
section
variable {X : Cx} {tg : Expr}
def iList (K : PySem.W.Frag) (tl : TE) : TI := fun σ H R => tl σ H fun x H1 => ∃ a,x = .ref a ∧ (∃ xs,SqL K H1 a xs) ∧ R (Itl K a) H1
theorem pi_list {l : Expr} {tl : TE} (hl : PE X l tl) : PI X tg l (iList X.K tl) := by
  intro pins s σ H R I h
  refine thn (hl pins s σ H _ I h) fun v s1 ⟨x,H1,I1,r1,q1⟩ => ?_
  obtain ⟨a,e,⟨xs,hq⟩,q⟩ := q1
  subst e
  cases r1
  obtain ⟨its,rv,p,hz⟩ := I1.list hq
  refine wpAny_pyIter_list p.isList ?_
  refine ⟨s1.heap.objs.size,[s1.heap.objs.size],_,_,H1,rfl,I1.kept (t' := s1.toks) fun b o e => Heap.get?_push_of_some _ e,turn_list a _,⟨_,Heap.get?_push_size _ rfl,rfl,rfl⟩,fun b hb => ?_,q⟩
  have e : b = s1.heap.objs.size := by simpa using hb
  subst e
  exact I1.fpOk (Nat.le_refl _) (I1.hok.fresh (Nat.le_refl _))
theorem range_it {pins : List (Addr × Obj)} {σ : St} {H : Hp} {s : Shared} {R : It → Hp → Prop} {E : Value → Shared → Prop} {lo hi : Int} {t u v : Tok} {tk : Nat} (I : Inv X pins σ H s) (h1 : -(2 ^ 62) ≤ lo) (h2 : lo < 2 ^ 62) (h3 : -(2 ^ 62) ≤ hi) (h4 : hi < 2 ^ 62)
    (q : R (Itr lo (hi - lo).toNat) H) : wpAny (model X.prog X.w) X.A (pyIter (.ref s.heap.objs.size)) (PIE X pins σ tg R) E { s with heap := s.heap.push { cls := .type "range",data := .fields #[.int lo t,.int hi u,.int 1 v] },toks := tk } := by
  refine wpAny_pyIter_range (IsRange.new ..) (small_one h1 h2 h3 h4) ?_
  have I1 : Inv X pins σ H { s with heap := s.heap.push { cls := .type "range",data := .fields #[.int lo t,.int hi u,.int 1 v] },toks := tk } := I.kept fun b o e => Heap.get?_push_of_some _ e
  refine ⟨(s.heap.push { cls := .type "range",data := .fields #[.int lo t,.int hi u,.int 1 v] }).objs.size,[(s.heap.push { cls := .type "range",data := .fields #[.int lo t,.int hi u,.int 1 v] }).objs.size],_,_,H,rfl,
    I1.kept (t' := tk) fun b o e => Heap.get?_push_of_some _ e,turn_range _ lo (hi - lo).toNat,?_,fun b hb => ?_,q⟩
  · have e1 : lo + ((0 : Nat) : Int) * 1 = lo := by simp
    have e2 : (((hi - lo).toNat : Nat) : Int) - ((0 : Nat) : Int) = Builtin.Range.rangeSize lo hi 1 := by rw [rangeSize_one]; split <;> omega
    show IsRangeIter _ _ (lo + ((0 : Nat) : Int) * 1) ((((hi - lo).toNat : Nat) : Int) - ((0 : Nat) : Int)) 1
    rw [e1,e2]
    exact Heap.get?_push_size _ rfl
  · have e : b = (s.heap.push { cls := .type "range",data := .fields #[.int lo t,.int hi u,.int 1 v] }).objs.size := by simpa using hb
    subst e
    exact I1.fpOk (Nat.le_refl _) (I1.hok.fresh (Nat.le_refl _))
def iRng1 (ta : TA) : TI := fun σ H R => ta σ H fun vs H1 => ∃ j : Int,vs = [.int j] ∧ -(2 ^ 62) ≤ j ∧ j < 2 ^ 62 ∧ R (Itr 0 j.toNat) H1
def iRng2 (ta : TA) : TI := fun σ H R => ta σ H fun vs H1 => ∃ i j : Int,vs = [.int i,.int j] ∧ (-(2 ^ 62) ≤ i ∧ i < 2 ^ 62 ∧ -(2 ^ 62) ≤ j ∧ j < 2 ^ 62) ∧ R (Itr i (j - i).toNat) H1
theorem pi_range1 {a : Expr} {ta : TA} {p pos : Pos} (hg : Gl X "range") (hm : X.mg "range" = none) (ha : PA X [a] ta) (hs : starEach [a] X.env = [(false,eval a X.env)] := by rfl) : PI X tg (.Call (.Name "range" p) [a] [] pos) (iRng1 ta) := by
  intro pins s σ H R I h
  refine Call_ (ld_blt I hg hm boot_range (PyProof.Rows.callWith_type1 (thn (ha pos pins s σ H _ I h) fun us s1 ⟨vs,H1,I1,r1,q1⟩ => ?_) hs rfl))
  obtain ⟨j,e,q1,q2,q⟩ := q1
  subst e
  cases r1 with
  | cons r rr =>
    cases rr
    obtain ⟨t,rfl⟩ := r
    exact call_range_1 (range_it I1 (by omega) (by omega) q1 q2 (by simpa using q))
theorem pi_range2 {a b : Expr} {ta : TA} {p pos : Pos} (hg : Gl X "range") (hm : X.mg "range" = none) (ha : PA X [a,b] ta) (hs : starEach [a,b] X.env = [(false,eval a X.env),(false,eval b X.env)] := by rfl) (hs2 : starEach [b] X.env = [(false,eval b X.env)] := by rfl) :
    PI X tg (.Call (.Name "range" p) [a,b] [] pos) (iRng2 ta) := by
  intro pins s σ H R I h
  refine Call_ (ld_blt I hg hm boot_range (PyProof.Rows.callWith_type1 (thn (ha pos pins s σ H _ I h) fun us s1 ⟨vs,H1,I1,r1,q1⟩ => ?_) (by rw [hs,hs2]) (by rw [hs2]; rfl)))
  obtain ⟨i,j,e,⟨q1,q2,q3,q4⟩,q⟩ := q1
  subst e
  cases r1 with
  | cons r rr =>
    cases rr with
    | cons r' rr =>
      cases rr
      obtain ⟨t,rfl⟩ := r
      obtain ⟨t',rfl⟩ := r'
      exact call_range_2 (range_it I1 q1 q2 q3 q4 q)
def tFor (wi : TI) (g : TG) (tb : TS) : TS := fun D σ H => wi σ H fun J H1 => ∃ W : Nat → Nat → St → Hp → Prop,(∃ m,W 0 m σ H1) ∧ ∀ i m σ H,W i m σ H →
  (J.stop i H ∧ D.nx σ H) ∨ (J.go i H ∧ ∃ N : St → Hp → Prop,(∀ σ' H',N σ' H' → ∃ m',m' < m ∧ W (i + 1) m' σ' H') ∧ ∀ x H',J.yld i H x H' → g x σ H' fun σ2 H2 => tb { D with nx := N,ct := N,bk := D.nx } σ2 H2)
def pinsAt (fp : List Addr) (h : Heap) : List (Addr × Obj) := fp.filterMap fun b => (h.get? b).map fun o => (b,o)
theorem mem_pinsAt {fp : List Addr} {h : Heap} {b : Addr} {o : Obj} (hb : b ∈ fp) (e : h.get? b = some o) : (b,o) ∈ pinsAt fp h := List.mem_filterMap.mpr ⟨b,hb,by rw [e]; rfl⟩
theorem of_pinsAt {fp : List Addr} {h : Heap} {p : Addr × Obj} (hp : p ∈ pinsAt fp h) : p.1 ∈ fp ∧ h.get? p.1 = some p.2 := by
  obtain ⟨b,hb,e⟩ := List.mem_filterMap.mp hp
  cases q : h.get? b with
  | none => rw [q] at e; cases e
  | some o =>
    rw [q] at e
    have e' : (b,o) = p := Option.some.inj e
    subst e'
    exact ⟨hb,q⟩
theorem Inv.pinned {pins : List (Addr × Obj)} {σ : St} {H : Hp} {s : Shared} {fp : List Addr} (I : Inv X pins σ H s) (hf : ∀ b ∈ fp,FpOk X pins H b) (ho : ∀ b ∈ fp,∃ o,s.heap.get? b = some o ∧ ∀ v,o.data ≠ .cell v) : Inv X (pins ++ pinsAt fp s.heap) σ H s :=
  I.pins_of fun p hp => (List.mem_append.mp hp).elim (fun z => I.pin p (List.mem_append_right _ z)) fun z => by
    obtain ⟨hb,e⟩ := of_pinsAt z
    obtain ⟨f0,f1,f2,_⟩ := hf p.1 hb
    obtain ⟨o,e',d⟩ := ho p.1 hb
    rw [e] at e'; cases e'
    exact ⟨e,f0,f1,f2,d⟩
theorem Inv.unpinned {pins pl : List (Addr × Obj)} {σ : St} {H : Hp} {s : Shared} (I : Inv X (pins ++ pl) σ H s) : Inv X pins σ H s := I.pins_of fun p hp => I.pin p (List.mem_append_right _ (List.mem_append_left _ hp))
theorem ps_for {iter : Expr} {body : List Stmt} {wi : TI} {g : TG} {tb : TS} {pos : Pos} (hp : PassesOwn (model X.prog X.w) X.A X.env X.xe) (hc : X.calm = true) (hi : PI X tg iter wi) (hg : PG X tg g) (hb : PSs X body tb)
    (hs : ∀ x,foldedSetIterable iter X.env x = pure x := by intro _; rfl) : PS X (.For tg iter body [] pos) (tFor wi g tb) := by
  intro pins s σ H D I h
  refine wpAny_For (thn (hi pins s σ H _ I h) fun v s1 h1 => thn h1 fun itv s2 h2 => ?_) hs
  obtain ⟨it,fp,tn,J,H2,e,I2,T,st2,f2,W,⟨m0,w0⟩,turn⟩ := h2
  subst e
  have stat : ∀ {H' : Hp},(∀ b ∈ fp,H' b = none) → ∀ b ∈ fp,FpOk X pins H' b := fun hn b hb => ⟨hn b hb,(f2 b hb).2⟩
  refine codeAny_forLoop_any (fun n s' => ∃ i σ' H',Inv X pins σ' H' s' ∧ tn i s'.heap ∧ (∀ b ∈ fp,H' b = none) ∧ W i n σ' H') ?_ m0 ⟨0,σ,H2,I2,st2,fun b hb => (f2 b hb).1,w0⟩
  rintro n s3 ⟨i,σ3,H3,I3,st3,fr3,w3⟩
  rcases turn i n σ3 H3 w3 with ⟨stop,qn⟩ | ⟨go,N,hN,step⟩
  · refine wpAny_passesOwn hp (thn (T.done X rfl rfl rfl hc i pins s3 σ3 H3 X.xe I3 (stat fr3) st3 stop) fun r s4 ⟨hr,I4⟩ => ?_)
    subst hr
    exact wpAny_execs_nil ⟨σ3,H3,I4,qn⟩
  · refine wpAny_passesOwn hp (thn (T.item X rfl rfl rfl hc i pins s3 σ3 H3 X.xe I3 (stat fr3) st3 go) fun r s4 ⟨u,hr,h4⟩ => ?_)
    subst hr
    refine wpAny_passesOwn hp (thn h4 fun _ s5 ⟨x,H5,I5,r5,y5,st5,fr5⟩ => ?_)
    have I5' := I5.pinned (stat fr5) (T.obj _ _ st5)
    refine wpAny_passesOwn hp (thn (hg _ s5 σ3 H5 x u _ I5' r5 (step x H5 y5)) fun _ s6 ⟨σ6,H6,I6,q6⟩ => ?_)
    refine wpAny_passesOwn hp (thn (hb _ s6 σ6 H6 _ I6 q6) fun f s7 q7 => ?_)
    have again : ∀ {σ7 : St} {H7 : Hp},Inv X (pins ++ pinsAt fp s5.heap) σ7 H7 s7 → N σ7 H7 → ∃ m,m < n ∧ ∃ i σ' H',Inv X pins σ' H' s7 ∧ tn i s7.heap ∧ (∀ b ∈ fp,H' b = none) ∧ W i m σ' H' := fun {σ7 H7} I7 n7 => by
      obtain ⟨m',hm,w7⟩ := hN σ7 H7 n7
      refine ⟨m',hm,i + 1,σ7,H7,I7.unpinned,T.keep _ _ _ st5 fun b hb o e => (I7.pin (b,o) (List.mem_append_right _ (List.mem_append_right _ (mem_pinsAt hb e)))).1,fun b hb => ?_,w7⟩
      obtain ⟨o,e,d⟩ := T.obj _ _ st5 b hb
      exact (I7.pin (b,o) (List.mem_append_right _ (List.mem_append_right _ (mem_pinsAt hb e)))).2.1
    cases f with
    | next => obtain ⟨σ7,H7,I7,n7⟩ := q7; exact again I7 n7
    | cont => obtain ⟨σ7,H7,I7,n7⟩ := q7; exact again I7 n7
    | brk => obtain ⟨σ7,H7,I7,q7⟩ := q7; exact ⟨σ7,H7,I7.unpinned,q7⟩
    | ret v => obtain ⟨x7,σ7,H7,I7,r7,q7⟩ := q7; exact ⟨x7,σ7,H7,I7.unpinned,r7,q7⟩
end
theorem for_list {K : PySem.W.Frag} {a : Addr} {xs : List V} {g : TG} {tb : TS} {D : Ends} {σ : St} {H : Hp} (Pv : Nat → St → Hp → Prop) (h0 : Pv 0 σ H) (hl : ∀ i σ H,i ≤ xs.length → Pv i σ H → SqL K H a xs)
    (hs : ∀ i x σ H,xs[i]? = some x → Pv i σ H → g x σ H fun σ2 H2 => tb { D with nx := Pv (i + 1),ct := Pv (i + 1),bk := D.nx } σ2 H2) (hd : ∀ σ H,Pv xs.length σ H → D.nx σ H) :
    ∃ W : Nat → Nat → St → Hp → Prop,(∃ m,W 0 m σ H) ∧ ∀ i m σ H,W i m σ H →
      ((Itl K a).stop i H ∧ D.nx σ H) ∨ ((Itl K a).go i H ∧ ∃ N : St → Hp → Prop,(∀ σ' H',N σ' H' → ∃ m',m' < m ∧ W (i + 1) m' σ' H') ∧ ∀ x H',(Itl K a).yld i H x H' → g x σ H' fun σ2 H2 => tb { D with nx := N,ct := N,bk := D.nx } σ2 H2) := by
  refine ⟨fun i m σ H => m = xs.length - i ∧ i ≤ xs.length ∧ Pv i σ H,⟨xs.length,by simp,Nat.zero_le _,h0⟩,?_⟩
  rintro i m σ H ⟨rfl,hi,p⟩
  have q := hl i σ H hi p
  by_cases hlt : i < xs.length
  · refine .inr ⟨⟨xs,xs[i],q,by simp [hlt]⟩,Pv (i + 1),fun σ' H' p' => ⟨xs.length - (i + 1),by omega,rfl,hlt,p'⟩,fun x H' y => ?_⟩
    obtain ⟨e,y⟩ := y
    subst e
    exact hs i x σ _ (y xs q) p
  · have e : i = xs.length := by omega
    subst e
    exact .inl ⟨⟨xs,q,Nat.le_refl _⟩,hd σ H p⟩
theorem for_range {lo : Int} {n : Nat} {g : TG} {tb : TS} {D : Ends} {σ : St} {H : Hp} (Pv : Nat → St → Hp → Prop) (h0 : Pv 0 σ H)
    (hs : ∀ i σ H,i < n → Pv i σ H → g (.int (lo + i)) σ H fun σ2 H2 => tb { D with nx := Pv (i + 1),ct := Pv (i + 1),bk := D.nx } σ2 H2) (hd : ∀ σ H,Pv n σ H → D.nx σ H) :
    ∃ W : Nat → Nat → St → Hp → Prop,(∃ m,W 0 m σ H) ∧ ∀ i m σ H,W i m σ H →
      ((Itr lo n).stop i H ∧ D.nx σ H) ∨ ((Itr lo n).go i H ∧ ∃ N : St → Hp → Prop,(∀ σ' H',N σ' H' → ∃ m',m' < m ∧ W (i + 1) m' σ' H') ∧ ∀ x H',(Itr lo n).yld i H x H' → g x σ H' fun σ2 H2 => tb { D with nx := N,ct := N,bk := D.nx } σ2 H2) := by
  refine ⟨fun i m σ H => m = n - i ∧ i ≤ n ∧ Pv i σ H,⟨n,by simp,Nat.zero_le _,h0⟩,?_⟩
  rintro i m σ H ⟨rfl,hi,p⟩
  by_cases hlt : i < n
  · refine .inr ⟨hlt,Pv (i + 1),fun σ' H' p' => ⟨n - (i + 1),by omega,rfl,hlt,p'⟩,fun x H' y => ?_⟩
    obtain ⟨e,y⟩ := y
    subst e y
    exact hs i σ _ hlt p
  · have e : i = n := by omega
    subst e
    exact .inl ⟨Nat.le_refl _,hd σ H p⟩
theorem while_by {c : TT} {tb : TS} {D : Ends} {σ : St} {H : Hp} (Pv : St → Hp → Prop) (μ : St → Hp → Nat) (h0 : Pv σ H)
    (hs : ∀ σ H,Pv σ H → c σ H fun b H1 => if b = true then tb { D with nx := fun σ' H' => Pv σ' H' ∧ μ σ' H' < μ σ H,ct := fun σ' H' => Pv σ' H' ∧ μ σ' H' < μ σ H,bk := D.nx } σ H1 else D.nx σ H1)
    (mono : ∀ σ H Q Q',(∀ b H1,Q b H1 → Q' b H1) → c σ H Q → c σ H Q') : tWhile c tb D σ H := by
  refine ⟨fun m σ H => m = μ σ H ∧ Pv σ H,⟨_,rfl,h0⟩,?_⟩
  rintro m σ H ⟨rfl,p⟩
  refine mono σ H _ _ (fun b H1 q => ?_) (hs σ H p)
  cases b with
  | true => exact ⟨_,fun σ' H' ⟨p',l⟩ => ⟨_,l,rfl,p'⟩,q⟩
  | false => exact q
end L2
namespace L2
open PySem PySem.Spec PyProof.Rows
abbrev R2 := V → V → Hp → VK → Prop
def OpR (X : Cx) (f : Value → Value → Sem Value) (r : R2) : Prop :=
  ∀ (pins : List (Addr × Obj)) (s : Shared) (σ : St) (H : Hp) (x y : V) (v u : Value) (Q : VK),Inv X pins σ H s → RelV x v → RelV y u → r x y H Q →
    wpAny (model X.prog X.w) X.A (f v u) (EP X pins σ Q) X.xe s
def UnR (X : Cx) (f : Value → Sem Value) (r : V → Hp → VK → Prop) : Prop :=
  ∀ (pins : List (Addr × Obj)) (s : Shared) (σ : St) (H : Hp) (x : V) (v : Value) (Q : VK),Inv X pins σ H s → RelV x v → r x H Q →
    wpAny (model X.prog X.w) X.A (f v) (EP X pins σ Q) X.xe s
def CallR (X : Cx) (f : Value) (r : List V → Hp → VK → Prop) : Prop :=
  ∀ (pins : List (Addr × Obj)) (s : Shared) (σ : St) (H : Hp) (xs : List V) (us : List Value) (Q : VK),Inv X pins σ H s → Vals xs us → r xs H Q →
    wpAny (model X.prog X.w) X.A (call f us) (EP X pins σ Q) X.xe s
def tOp (r : R2) (ta tb : TE) : TE := fun σ H Q => ta σ H fun x H1 => tb σ H1 fun y H2 => r x y H2 Q
def tUn (r : V → Hp → VK → Prop) (ta : TE) : TE := fun σ H Q => ta σ H fun x H1 => r x H1 Q
def rI (C : Int → Int → Prop) (g : Int → Int → V) : R2 := fun x y H Q => ∃ i j,x = .int i ∧ y = .int j ∧ C i j ∧ Q (g i j) H
def rI0 (g : Int → Int → V) : R2 := fun x y H Q => ∃ i j,x = .int i ∧ y = .int j ∧ Q (g i j) H
def rU (g : Int → V) : V → Hp → VK → Prop := fun x H Q => ∃ i,x = .int i ∧ Q (g i) H
section
variable {X : Cx} {a b c : Expr} {ta tb tc : TE} {pos : Pos}
theorem binT (ha : PE X a ta) (hb : PE X b tb) {pins : List (Addr × Obj)} {s : Shared} {σ : St} {H : Hp} {R : V → V → Hp → Prop} (I : Inv X pins σ H s)
    (h : ta σ H fun x H1 => tb σ H1 fun y H2 => R x y H2) {Q : Value → Shared → Prop} {f : Value → Value → Sem Value}
    (hf : ∀ v u s2 x y H2,Inv X pins σ H2 s2 → RelV x v → RelV y u → R x y H2 → wpAny (model X.prog X.w) X.A (f v u) Q X.xe s2) :
    wpAny (model X.prog X.w) X.A (eval a X.env) (fun v s₁ => wpAny (model X.prog X.w) X.A (eval b X.env) (fun u s₂ => wpAny (model X.prog X.w) X.A (f v u) Q X.xe s₂) X.xe s₁) X.xe s := by
  refine thn (ha pins s σ H _ I h) fun v s1 ⟨x,H1,I1,r1,q1⟩ => ?_
  refine thn (hb pins s1 σ H1 _ I1 q1) fun u s2 ⟨y,H2,I2,r2,q2⟩ => ?_
  exact hf v u s2 x y H2 I2 r1 r2 q2
theorem pe_op {op : Operator} {r : R2} (ho : OpR X (binaryOp op) r) (ha : PE X a ta) (hb : PE X b tb) : PE X (.BinOp a op b pos) (tOp r ta tb) := by
  intro pins s σ H Q I h
  exact wpAny_BinOp (binT ha hb I h fun v u s2 x y H2 I2 rx ry q => ho pins s2 σ H2 x y v u Q I2 rx ry q)
theorem pe_un {op : UnaryOp} {r : V → Hp → VK → Prop} (ho : UnR X (unaryOp op) r) (ha : PE X a ta) : PE X (.UnaryOp op a pos) (tUn r ta) := by
  intro pins s σ H Q I h
  exact UnaryOp_ (thn (ha pins s σ H _ I h) fun v s1 ⟨x,H1,I1,r1,q1⟩ => ho pins s1 σ H1 x v Q I1 r1 q1)
theorem opI {f : Value → Value → Sem Value} {C : Int → Int → Prop} {g : Int → Int → Int}
    (rule : ∀ (i j : Int) (t u : Tok) (s : Shared) (Q : Value → Shared → Prop) (E : Value → Shared → Prop),C i j → Q (.int (g i j) s.toks) { s with toks := s.toks + 1 } → wpAny (model X.prog X.w) X.A (f (.int i t) (.int j u)) Q E s) :
    OpR X f (rI C fun i j => .int (g i j)) := by
  intro pins s σ H x y v u Q I rx ry h
  obtain ⟨i,j,rfl,rfl,hc,q⟩ := h
  obtain ⟨t,rfl⟩ := rx
  obtain ⟨t',rfl⟩ := ry
  exact rule i j t t' s _ _ hc ⟨.int (g i j),H,I.tok _,⟨_,rfl⟩,q⟩
theorem opI0 {f : Value → Value → Sem Value} {g : Int → Int → Int}
    (rule : ∀ (i j : Int) (t u : Tok) (s : Shared) (Q : Value → Shared → Prop) (E : Value → Shared → Prop),Q (.int (g i j) s.toks) { s with toks := s.toks + 1 } → wpAny (model X.prog X.w) X.A (f (.int i t) (.int j u)) Q E s) :
    OpR X f (rI0 fun i j => .int (g i j)) := by
  intro pins s σ H x y v u Q I rx ry h
  obtain ⟨i,j,rfl,rfl,q⟩ := h
  obtain ⟨t,rfl⟩ := rx
  obtain ⟨t',rfl⟩ := ry
  exact rule i j t t' s _ _ ⟨.int (g i j),H,I.tok _,⟨_,rfl⟩,q⟩
theorem opB0 {f : Value → Value → Sem Value} {g : Int → Int → Bool}
    (rule : ∀ (i j : Int) (t u : Tok) (s : Shared) (Q : Value → Shared → Prop) (E : Value → Shared → Prop),Q (.bool (g i j)) s → wpAny (model X.prog X.w) X.A (f (.int i t) (.int j u)) Q E s) :
    OpR X f (rI0 fun i j => .bl (g i j)) := by
  intro pins s σ H x y v u Q I rx ry h
  obtain ⟨i,j,rfl,rfl,q⟩ := h
  obtain ⟨t,rfl⟩ := rx
  obtain ⟨t',rfl⟩ := ry
  exact rule i j t t' s _ _ ⟨.bl (g i j),H,I,rfl,q⟩
def CPow (i j : Int) : Prop := 0 ≤ j ∧ j ≤ 1000000 ∧ i.natAbs < 2 ^ 64
def CMul (i j : Int) : Prop := (-(2 ^ 64) < i ∧ i < 2 ^ 64) ∨ (-(2 ^ 64) < j ∧ j < 2 ^ 64)
theorem CMul.ok {i j : Int} (h : CMul i j) : IntMulOk i j := by
  rcases h with ⟨h1,h2⟩ | ⟨h1,h2⟩
  · exact .of_left (intBits_le_64 h1 h2)
  · exact .of_right (intBits_le_64 h1 h2)
theorem op_add : OpR X (binaryOp .Add) (rI0 fun i j => .int (i + j)) := opI0 fun _ _ _ _ _ _ _ q => add_int q
theorem op_sub : OpR X (binaryOp .Sub) (rI0 fun i j => .int (i - j)) := opI0 fun _ _ _ _ _ _ _ q => sub_int q
theorem op_mod : OpR X (binaryOp .Mod) (rI (fun _ j => 0 < j) fun i j => .int (i % j)) := opI fun i j _ _ _ _ _ hc q => by
  have h1 : (0 : Int) < j := hc
  exact mod_int' (by omega) (by rw [Int.fmod_eq_emod_of_nonneg i (by omega)]; exact q)
theorem op_pow : OpR X (binaryOp .Pow) (rI CPow fun i j => .int (i ^ j.toNat)) := opI fun _ _ _ _ _ _ _ hc q => pow_int_small hc.1 hc.2.1 hc.2.2 q
theorem unI {f : Value → Sem Value} {g : Int → Int}
    (rule : ∀ (i : Int) (t : Tok) (s : Shared) (Q : Value → Shared → Prop) (E : Value → Shared → Prop),Q (.int (g i) s.toks) { s with toks := s.toks + 1 } → wpAny (model X.prog X.w) X.A (f (.int i t)) Q E s) :
    UnR X f (rU fun i => .int (g i)) := by
  intro pins s σ H x v Q I rx h
  obtain ⟨i,rfl,q⟩ := h
  obtain ⟨t,rfl⟩ := rx
  exact rule i t s _ _ ⟨.int (g i),H,I.tok _,⟨_,rfl⟩,q⟩
theorem un_neg : UnR X (unaryOp .USub) (rU fun i => .int (-i)) := unI fun _ _ _ _ _ q => neg_int q
end
def scal : V → V → Bool
  | .non,.non => true | .non,.int _ => true | .int _,.non => true | .non,.bl _ => true | .bl _,.non => true | .non,.str _ => true | .str _,.non => true
  | .int _,.int _ => true | .bl _,.bl _ => true | .str _,.str _ => true | .byt _,.byt _ => true
  | .int _,.str _ => true | .str _,.int _ => true | .bl _,.str _ => true | .str _,.bl _ => true
  | _,_ => false
def rEq : R2 := fun x y H Q => scal x y = true ∧ Q (.bl (decide (x = y))) H
def rNe : R2 := fun x y H Q => scal x y = true ∧ Q (.bl (!decide (x = y))) H
theorem dec_int {i j : Int} : decide (V.int i = V.int j) = (i == j) := by
  rw [Bool.eq_iff_iff]
  simp
theorem dec_bl {i j : Bool} : decide (V.bl i = V.bl j) = (i == j) := by
  rw [Bool.eq_iff_iff]
  simp
theorem dec_str {i j : Str} : decide (V.str i = V.str j) = (i == j) := by
  rw [Bool.eq_iff_iff]
  simp
theorem dec_byt {i j : Array UInt8} : decide (V.byt i = V.byt j) = (i.toList == j.toList) := by
  rw [Bool.eq_iff_iff]
  cases i
  cases j
  simp
section
variable {X : Cx} {a b c : Expr} {ta tb tc : TE} {pos : Pos}
theorem fin_bl {pins : List (Addr × Obj)} {σ : St} {H : Hp} {s : Shared} {Q : VK} {k k' : Bool} (I : Inv X pins σ H s) (q : Q (.bl k) H) (e : k = k') : EP X pins σ Q (.bool k') s := by
  subst e
  exact ⟨.bl k,H,I,rfl,q⟩
theorem op_eq : OpR X (compareOp .Eq) rEq := by
  intro pins s σ H x y v u Q I rx ry h
  obtain ⟨hs,q⟩ := h
  cases x with
  | non =>
    cases rx
    cases y with
    | non => cases ry; exact PySem.EqNone.eq_none_none (fin_bl I q (by simp))
    | bl j => cases ry; exact PySem.EqNone.eq_none_bool (fin_bl I q (by simp))
    | int j => obtain ⟨t',rfl⟩ := ry; exact PySem.EqNone.eq_none_int (fin_bl I q (by simp))
    | str j => obtain ⟨t',rfl⟩ := ry; exact PySem.EqNone.eq_none_str (fin_bl I q (by simp))
    | _ => exact absurd (show false = true from hs) Bool.false_ne_true
  | bl i =>
    cases rx
    cases y with
    | non => cases ry; exact PySem.EqNone.eq_bool_none (fin_bl I q (by simp))
    | bl j => cases ry; exact eq_bool (fin_bl I q dec_bl)
    | str j => obtain ⟨t',rfl⟩ := ry; exact PySem.EqMixed.eq_bool_str (fin_bl I q (by simp))
    | _ => exact absurd (show false = true from hs) Bool.false_ne_true
  | int i =>
    obtain ⟨t,rfl⟩ := rx
    cases y with
    | non => cases ry; exact PySem.EqNone.eq_int_none (fin_bl I q (by simp))
    | int j => obtain ⟨t',rfl⟩ := ry; exact eq_int (fin_bl I q dec_int)
    | str j => obtain ⟨t',rfl⟩ := ry; exact PySem.EqMixed.eq_int_str (fin_bl I q (by simp))
    | _ => exact absurd (show false = true from hs) Bool.false_ne_true
  | str i =>
    obtain ⟨t,rfl⟩ := rx
    cases y with
    | non => cases ry; exact PySem.EqNone.eq_str_none (fin_bl I q (by simp))
    | bl j => cases ry; exact PySem.EqMixed.eq_str_bool (fin_bl I q (by simp))
    | int j => obtain ⟨t',rfl⟩ := ry; exact PySem.EqMixed.eq_str_int (fin_bl I q (by simp))
    | str j => obtain ⟨t',rfl⟩ := ry; exact eq_str (fin_bl I q dec_str)
    | _ => exact absurd (show false = true from hs) Bool.false_ne_true
  | byt i =>
    obtain ⟨t,rfl⟩ := rx
    cases y with
    | byt j => obtain ⟨t',rfl⟩ := ry; exact PySem.W.eq_bytes (fin_bl I q dec_byt)
    | _ => exact absurd (show false = true from hs) Bool.false_ne_true
  | _ => cases y <;> exact absurd (show false = true from hs) Bool.false_ne_true
theorem op_ne : OpR X (compareOp .NotEq) rNe := by
  intro pins s σ H x y v u Q I rx ry h
  obtain ⟨hs,q⟩ := h
  cases x with
  | non =>
    cases rx
    cases y with
    | non => cases ry; exact PySem.EqNone.ne_none_none (fin_bl I q (by simp))
    | bl j => cases ry; exact PySem.EqNone.ne_none_bool (fin_bl I q (by simp))
    | int j => obtain ⟨t',rfl⟩ := ry; exact PySem.EqNone.ne_none_int (fin_bl I q (by simp))
    | str j => obtain ⟨t',rfl⟩ := ry; exact PySem.EqNone.ne_none_str (fin_bl I q (by simp))
    | _ => exact absurd (show false = true from hs) Bool.false_ne_true
  | bl i =>
    cases rx
    cases y with
    | non => cases ry; exact PySem.EqNone.ne_bool_none (fin_bl I q (by simp))
    | bl j => cases ry; exact ne_bool (fin_bl I q (congrArg not dec_bl))
    | str j => obtain ⟨t',rfl⟩ := ry; exact PySem.EqMixed.ne_bool_str (fin_bl I q (by simp))
    | _ => exact absurd (show false = true from hs) Bool.false_ne_true
  | int i =>
    obtain ⟨t,rfl⟩ := rx
    cases y with
    | non => cases ry; exact PySem.EqNone.ne_int_none (fin_bl I q (by simp))
    | int j => obtain ⟨t',rfl⟩ := ry; exact ne_int (fin_bl I q (congrArg not dec_int))
    | str j => obtain ⟨t',rfl⟩ := ry; exact PySem.EqMixed.ne_int_str (fin_bl I q (by simp))
    | _ => exact absurd (show false = true from hs) Bool.false_ne_true
  | str i =>
    obtain ⟨t,rfl⟩ := rx
    cases y with
    | non => cases ry; exact PySem.EqNone.ne_str_none (fin_bl I q (by simp))
    | bl j => cases ry; exact PySem.EqMixed.ne_str_bool (fin_bl I q (by simp))
    | int j => obtain ⟨t',rfl⟩ := ry; exact PySem.EqMixed.ne_str_int (fin_bl I q (by simp))
    | str j => obtain ⟨t',rfl⟩ := ry; exact ne_str (fin_bl I q (congrArg not dec_str))
    | _ => exact absurd (show false = true from hs) Bool.false_ne_true
  | byt i =>
    obtain ⟨t,rfl⟩ := rx
    cases y with
    | byt j => obtain ⟨t',rfl⟩ := ry; exact PySem.W.ne_bytes (fin_bl I q (congrArg not dec_byt))
    | _ => exact absurd (show false = true from hs) Bool.false_ne_true
  | _ => cases y <;> exact absurd (show false = true from hs) Bool.false_ne_true
theorem op_lt : OpR X (compareOp .Lt) (rI0 fun i j => .bl (decide (i < j))) := opB0 fun _ _ _ _ _ _ _ q => lt_int q
theorem op_le : OpR X (compareOp .LtE) (rI0 fun i j => .bl (decide (i ≤ j))) := opB0 fun _ _ _ _ _ _ _ q => le_int q
theorem op_gt : OpR X (compareOp .Gt) (rI0 fun i j => .bl (decide (j < i))) := opB0 fun _ _ _ _ _ _ _ q => gt_int q
theorem op_ge : OpR X (compareOp .GtE) (rI0 fun i j => .bl (decide (j ≤ i))) := opB0 fun _ _ _ _ _ _ _ q => ge_int q
theorem nomark (b : Expr) {op : CmpOp} (h : op ≠ .In := by decide) (h2 : op ≠ .NotIn := by decide) : behindInMarks op b = false := by
  have e1 : (op == CmpOp.In) = false := by cases op <;> first | rfl | exact absurd rfl h
  have e2 : (op == CmpOp.NotIn) = false := by cases op <;> first | rfl | exact absurd rfl h2
  cases b <;> simp [behindInMarks,e1,e2]
theorem pe_cmpR {op : CmpOp} {r : R2} (ho : OpR X (compareOp op) r) (ha : PE X a ta) (hb : PE X b tb) (hm : behindInMarks op b = false) : PE X (.Compare a [op] [b] pos) (tOp r ta tb) := by
  intro pins s σ H Q I h
  exact wpAny_Compare1 (binT ha hb I h fun v u s2 x y H2 I2 rx ry q => ho pins s2 σ H2 x y v u Q I2 rx ry q) hm
def tTest (t : TE) : TT := fun σ H Q => t σ H fun x H' => ∃ k,x = .bl k ∧ Q k H'
theorem pt_cmpR {op : CmpOp} {r : R2} (ho : OpR X (compareOp op) r) (ha : PE X a ta) (hb : PE X b tb) (hm : behindInMarks op b = false) : PT X (.Compare a [op] [b] pos) (tTest (tOp r ta tb)) := by
  intro pins s σ H Q I h
  refine wpAny_isTrue_Compare1 (thn (ha pins s σ H _ I h) fun v s1 ⟨x,H1,I1,r1,q1⟩ => thn (hb pins s1 σ H1 _ I1 q1) fun u s2 ⟨y,H2,I2,r2,q2⟩ =>
    thn (ho pins s2 σ H2 x y v u _ I2 r1 r2 q2) fun c s3 ⟨z,H3,I3,r3,k,e,q3⟩ => ?_) hm
  subst e
  cases r3
  exact wpAny_truthy_bool ⟨H3,I3,q3⟩
def tChain (r r' : R2) (ta tb tc : TE) : TE := fun σ H Q => ta σ H fun x H1 => tb σ H1 fun y H2 => r x y H2 fun z H3 => ∃ k,z = .bl k ∧
  (if k = true then tc σ H3 fun w' H4 => r' y w' H4 Q else Q (.bl false) H3)
theorem pe_chain {op op' : CmpOp} {r r' : R2} (ho : OpR X (compareOp op) r) (ho' : OpR X (compareOp op') r') (ha : PE X a ta) (hb : PE X b tb) (hc : PE X c tc)
    (hm : lastMarks [op,op'] [b,c] = false := by with_unfolding_all rfl) : PE X (.Compare a [op,op'] [b,c] pos) (tChain r r' ta tb tc) := by
  intro pins s σ H Q I h
  refine Compare_chain (thn (ha pins s σ H _ I h) fun v s1 ⟨x,H1,I1,r1,q1⟩ => chain_link (thn (hb pins s1 σ H1 _ I1 q1) fun u s2 ⟨y,H2,I2,r2,q2⟩ =>
    thn (ho pins s2 σ H2 x y v u _ I2 r1 r2 q2) fun d s3 ⟨z,H3,I3,r3,k,e,q3⟩ => ?_)) hm
  subst e
  cases r3
  refine wpAny_truthy_bool ?_
  cases k with
  | false => exact ite_ff ⟨.bl false,H3,I3,rfl,q3⟩
  | true => exact ite_tt (chain_last (thn (hc pins s3 σ H3 _ I3 q3) fun w' s4 ⟨z',H4,I4,r4,q4⟩ => ho' pins s4 σ H4 y z' u w' Q I4 r2 r4 q4))
theorem line63 : (sizeLine : Nat) < 2 ^ 63 := by rw [sizeLine_eq]; decide
theorem vals1 {x : V} {us : List Value} (r : Vals [x] us) : ∃ u,us = [u] ∧ RelV x u := by
  cases r with
  | cons r1 r2 => cases r2; exact ⟨_,rfl,r1⟩
theorem vals2 {x y : V} {us : List Value} (r : Vals [x,y] us) : ∃ u w',us = [u,w'] ∧ RelV x u ∧ RelV y w' := by
  cases r with
  | cons r1 r2 =>
    cases r2 with
    | cons r3 r4 => cases r4; exact ⟨_,_,rfl,r1,r3⟩
theorem call_abs : CallR X (.builtin "abs") (fun xs H Q => ∃ i,xs = [.int i] ∧ Q (.int (if i < 0 then -i else i)) H) := by
  intro pins s σ H xs us Q I r h
  obtain ⟨i,rfl,q⟩ := h
  obtain ⟨u,rfl,t,rfl⟩ := vals1 r
  exact call_abs_int fun u tk => ⟨.int (if i < 0 then -i else i),H,I.tok _,⟨_,rfl⟩,q⟩
theorem call_max2 (hc : X.calm = true) : CallR X (.builtin "max") (fun xs H Q => ∃ i j,xs = [.int i,.int j] ∧ Q (.int (if j > i then j else i)) H) := by
  intro pins s σ H xs us Q I r h
  obtain ⟨i,j,rfl,q⟩ := h
  obtain ⟨u,w',rfl,⟨t,rfl⟩,⟨t',rfl⟩⟩ := vals2 r
  refine max_two_ints (I.ok.hd hc) fun h' tk k => ⟨_,H,I.kept k,?_,q⟩
  by_cases hj : j > i
  · rw [if_pos hj,if_pos hj]; exact ⟨_,rfl⟩
  · rw [if_neg hj,if_neg hj]; exact ⟨_,rfl⟩
theorem call_min2 (hc : X.calm = true) : CallR X (.builtin "min") (fun xs H Q => ∃ i j,xs = [.int i,.int j] ∧ Q (.int (if j < i then j else i)) H) := by
  intro pins s σ H xs us Q I r h
  obtain ⟨i,j,rfl,q⟩ := h
  obtain ⟨u,w',rfl,⟨t,rfl⟩,⟨t',rfl⟩⟩ := vals2 r
  refine min_two_ints (I.ok.hd hc) fun h' tk k => ⟨_,H,I.kept k,?_,q⟩
  by_cases hj : j < i
  · rw [if_pos hj,if_pos hj]; exact ⟨_,rfl⟩
  · rw [if_neg hj,if_neg hj]; exact ⟨_,rfl⟩
end
end L2
namespace L2
open PySem PySem.Spec PyProof.Rows
structure ObjM (h : Heap) (x dx C : Addr) (mA : Str → Option Value) : Prop where
  obj : h.get? x = some (PySem.W.instObj C dx)
  ns : h.Ns1 dx mA
  ne : dx ≠ x
theorem lookIn_ns {h : Heap} {dx : Addr} {mA : Str → Option Value} (n : h.Ns1 dx mA) : ∃ od,h.get? dx = some od ∧ ∀ name,PySem.W.lookIn name od = some (mA name) := by
  obtain ⟨o,es,ep,ho,hd,hk,_,hm⟩ := n
  refine ⟨o,ho,fun name => ?_⟩
  have e := hm name
  unfold nsFind findBy at e
  rw [← Array.find?_toList] at e
  unfold PySem.W.lookIn
  rw [hd]
  dsimp only
  split
  · rename_i y q
    rw [q] at e
    exact congrArg some e
  · rename_i q
    rw [q] at e
    have a : es.toList.any (·.refKey) = false := by
      rw [List.any_eq_false]
      intro y hy
      obtain ⟨z,t,hkey⟩ := hk y (Array.mem_toList_iff.mp hy)
      simp [DictEntry.refKey,hkey]
    have a' : ¬ es.toList.any (·.refKey) = true := by rw [a]; exact Bool.false_ne_true
    rw [if_neg a']
    exact congrArg some e
theorem ObjM.look {h : Heap} {x dx C : Addr} {mA : Str → Option Value} (I : ObjM h x dx C mA) : ∃ od,PySem.W.InstAt h x (PySem.W.instObj C dx) C (some od) ∧ ∀ name,PySem.W.lookIn name od = some (mA name) :=
  let ⟨od,ho,hl⟩ := lookIn_ns I.ns
  ⟨od,⟨I.obj,rfl,rfl,ho⟩,hl⟩
section
variable {prog : Program} {w : World} {A : Around} {E : Value → Shared → Prop} {s : Shared} {K : PySem.W.Frag} {x dx C f : Addr} {mA : Str → Option Value} {name : Str} {v : Value}
end
section
variable {P : Program} {w : World} {H H' : Hp} {h h' : Heap} {a C dx : Addr} {fs fs' : List (Str × V)}
theorem ins_get (hok : HOk P w H h) (e : H a = some (.ins C dx fs)) : ∃ mA,ObjM h a dx C mA ∧ (∀ f,RelO (fs.lookup f) (mA f)) ∧ PySem.Within mA (fs.map (·.1)) ∧ fs.length ≤ 1000 ∧ H dx = some (.own a) := by
  obtain ⟨d,z,ne,ob,mA,n,r,q⟩ := (show ObjOk P w H h a (.ins C dx fs) from hok a _ e)
  exact ⟨mA,⟨ob,n,ne⟩,r,q,z,d⟩
end
structure Cls (K : PySem.W.Frag) (C : Addr) : Prop where
  pg : PySem.W.plainGet K C Str.empty = true
  hd : PySem.W.hasDictIn K C = true
  po : PySem.W.plainOver K C = true
  sa : PySem.W.findIn K (.ref C) "__setattr__" = some (some (.builtin "object.__setattr__"))
theorem Cls.get {K : PySem.W.Frag} {C : Addr} (c : Cls K C) (f : Str) : PySem.W.plainGet K C f = true := c.pg
section
variable {X : Cx} {pins : List (Addr × Obj)} {σ : St} {H : Hp} {s : Shared} {a C dx : Addr} {fs : List (Str × V)} {f : Str} {v : V} {A : Around} {E : Value → Shared → Prop}
end
section
variable {X : Cx} {o e value : Expr} {f : Str} {pos pos' tpos : Pos} {ta tv : TE}
end
section
variable {X : Cx} {pins : List (Addr × Obj)} {σ : St} {H : Hp} {s : Shared} {A : Around} {E : Value → Shared → Prop} {Q : Value → Shared → Prop} {c : Value} {b : Bool}
inductive TyOf (K : PySem.W.Frag) (H : Hp) : V → Value → Prop where
  | non : TyOf K H .non (.type "NoneType")
  | bl (x : Bool) : TyOf K H (.bl x) (.type "bool")
  | int (i : Int) : TyOf K H (.int i) (.type "int")
  | str (x : Str) : TyOf K H (.str x) (.type "str")
  | flt (x : UInt64) : TyOf K H (.flt x) (.type "float")
  | lst {a : Addr} {xs : List V} (e : H a = some (.lst xs)) : TyOf K H (.ref a) (.type "list")
  | frz {a : Addr} {o : Obj} {xs : List V} (e : H a = some (.frz o (.lst xs))) : TyOf K H (.ref a) (.type "list")
  | tup {a : Addr} {xs : List V} (e : H a = some (.tup xs)) : TyOf K H (.ref a) (.type "tuple")
  | dK {a : Addr} {kvs : List (Key × V)} (e : H a = some (.dK kvs)) : TyOf K H (.ref a) (.type "dict")
  | dT {a : Addr} {kvs : List (List Key × V)} (e : H a = some (.dT kvs)) : TyOf K H (.ref a) (.type "dict")
  | ins {a C dx : Addr} {fs : List (Str × V)} (e : H a = some (.ins C dx fs)) (cl : Cls K C) (ha : PySem.W.findIn K (.ref C) "__class__" = some (some (.builtin "object.__class__")))
      (hn : PySem.W.specialIn K (.builtin "object.__class__") "__get__" = some (some (.builtin "getset_descriptor.__get__"))) (htk : PySem.W.takesIn K (.builtin "object.__class__") = some true)
      (hm : PySem.W.mroIn K C (.type "object") = some true) : TyOf K H (.ref a) (.ref C)
theorem isinst_ok {x : V} {u t : Value} (I : Inv X pins σ H s) (rx : RelV x u) (ty : TyOf X.K H x t) (e : PySem.W.kitOne X.K t c = some b) (h : ∀ tk,Q (.bool b) { s with toks := tk }) :
    wpAny (model X.prog X.w) A (call (.builtin "isinstance") [u,c]) Q E s := by
  cases ty with
  | non => cases (show u = Value.none from rx); exact PySem.W.kia_one PySem.W.kitx_none I.kIn True.intro e (fun z => nomatch z) h
  | bl y => cases (show u = Value.bool y from rx); exact PySem.W.kia_one PySem.W.kitx_bool I.kIn True.intro e (fun z => nomatch z) h
  | int i => obtain ⟨t,q⟩ := (show ∃ t,u = Value.int i t from rx); cases q; exact PySem.W.kia_one PySem.W.kitx_int I.kIn True.intro e (fun z => nomatch z) h
  | str y => obtain ⟨t,q⟩ := (show ∃ t,u = Value.str y t from rx); cases q; exact PySem.W.kia_one PySem.W.kitx_str I.kIn True.intro e (fun z => nomatch z) h
  | flt y => obtain ⟨t,q⟩ := (show ∃ t,u = Value.float y t from rx); cases q; exact PySem.W.kia_one PySem.W.kitx_float I.kIn True.intro e (fun z => nomatch z) h
  | @lst a xs ea =>
    cases (show u = Value.ref a from rx)
    obtain ⟨_,_,n,_,h1⟩ := (show ObjOk X.prog X.w H s.heap a (.lst xs) from I.hok a _ ea)
    exact PySem.W.kia_one PySem.W.kitx_list I.kIn ⟨_,h1,rfl⟩ e (fun z => nomatch z) h
  | @frz a ob xs ea =>
    cases (show u = Value.ref a from rx)
    obtain ⟨_,_,_,n,_,h1⟩ := (show ObjOk X.prog X.w H s.heap a (.frz ob (.lst xs)) from I.hok a _ ea)
    exact PySem.W.kia_one PySem.W.kitx_list I.kIn ⟨_,h1,rfl⟩ e (fun z => nomatch z) h
  | @tup a xs ea =>
    cases (show u = Value.ref a from rx)
    obtain ⟨_,_,_,p⟩ := (show ObjOk X.prog X.w H s.heap a (.tup xs) from I.hok a _ ea)
    obtain ⟨o,h1,h2,_⟩ := p
    exact PySem.W.kia_one PySem.W.kitx_tuple I.kIn ⟨o,h1,h2⟩ e (fun z => nomatch z) h
  | @dK a kvs ea =>
    cases (show u = Value.ref a from rx)
    obtain ⟨_,_,vs,_,p⟩ := (show ObjOk X.prog X.w H s.heap a (.dK kvs) from I.hok a _ ea)
    obtain ⟨o,es,ep,h1,h2,_⟩ := p
    exact PySem.W.kia_one PySem.W.kitx_dict I.kIn ⟨o,h1,h2.1⟩ e (fun z => nomatch z) h
  | @dT a kvs ea =>
    cases (show u = Value.ref a from rx)
    obtain ⟨_,_,xs,_,o,es,ep,h1,h2,_⟩ := (show ObjOk X.prog X.w H s.heap a (.dT kvs) from I.hok a _ ea)
    exact PySem.W.kia_one PySem.W.kitx_dict I.kIn ⟨o,h1,h2.1⟩ e (fun z => nomatch z) h
  | @ins a C dx fs ea cl ha hn htk hm =>
    cases (show u = Value.ref a from rx)
    obtain ⟨mA,O,_⟩ := ins_get I.hok ea
    obtain ⟨od,J,_⟩ := O.look
    exact PySem.W.kia_one (PySem.W.kitx_own (cl.get _) cl.hd ha hn htk hm) I.kIn J e (fun z => nomatch z) h
end
end L2
namespace L2
open PySem PySem.Spec PyProof.Rows
structure Room (k : Nat) (A : Around) : Prop where
  hd : A.handled = none
  dp : A.depth + 3 * k + 5 < recursionLimit
  un : A.units + 16 * k + 200 < cLine
  gd : A.guards = some []
theorem Room.mono {j k : Nat} {A : Around} (r : Room k A) (h : j ≤ k) : Room j A := ⟨r.hd,by have := r.dp; omega,by have := r.un; omega,r.gd⟩
theorem Room.deeper {k : Nat} {A : Around} (r : Room (k + 1) A) (env : Env) : Room k (A.deeper env) :=
  ⟨r.hd,by have := r.dp; show A.depth + 1 + 3 * k + 5 < _; omega,by have := r.un; show A.units + 3 + 16 * k + 200 < _; omega,r.gd⟩
theorem Room.depth {k : Nat} {A : Around} (r : Room k A) : A.depth < recursionLimit := by have := r.dp; omega
theorem Room.units {k : Nat} {A : Around} (r : Room k A) : A.units + 64 < cLine := by have := r.un; omega
theorem Room.units0 {k : Nat} {A : Around} (r : Room k A) : A.units < cLine := by have := r.un; omega
def tNil : TA := fun _ H Q => Q [] H
def tCons (ta : TE) (tr : TA) : TA := fun σ H Q => ta σ H fun x H1 => tr σ H1 fun xs H2 => Q (x :: xs) H2
section
variable {X : Cx} {e : Expr} {es : List Expr} {te : TE} {t : TA} {pos : Pos}
theorem pa_nil : PA X [] tNil := fun _ _ _ _ H Q I h => Calls.spliced_nil ⟨[],H,I,.nil,h⟩
theorem pa_cons (ha : PE X e te) (hr : PA X es t) (hs : starEach (e :: es) X.env = (false,eval e X.env) :: starEach es X.env := by rfl) : PA X (e :: es) (tCons te t) := by
  intro pos pins s σ H Q I h
  rw [hs]
  show wpAny _ _ (spliced ((false,eval e X.env) :: backTo pos (starEach es X.env))) _ _ s
  refine Calls.spliced_cons (thn (ha pins s σ H _ I h) fun u s1 ⟨x,H1,I1,r1,q1⟩ => ?_)
  exact thn (hr pos pins s1 σ H1 _ I1 q1) fun us s2 ⟨xs,H2,I2,r2,q2⟩ => ⟨x :: xs,H2,I2,.cons r1 r2,q2⟩
def tTup (t : TA) : TE := fun σ H Q => t σ H fun xs H1 => xs.length ≤ sizeLine ∧ ∀ p,H1 p = none → Q (.ref p) (upd H1 p (.tup xs))
theorem pe_tup {x1} (h : PA X es t) : PE X (.Tuple es x1 pos) (tTup t) := by
  intro pins s σ H Q I hq
  refine wpAny_Tuple_spliced (thn (h pos pins s σ H _ I hq) fun us s1 ⟨xs,H1,I1,r,z,q⟩ => ⟨by rw [← r.length]; exact z,?_⟩)
  have hf : H1 s1.heap.objs.size = none := I1.hok.fresh (Nat.le_refl _)
  refine ⟨.ref s1.heap.objs.size,upd H1 s1.heap.objs.size (.tup xs),I1.laid (t' := s1.toks) (fun b u e => Heap.get?_push_of_some _ e) (Nat.le_refl _) ?_,rfl,q _ hf⟩
  exact ⟨z,us,r,⟨_,Heap.get?_push_size _ rfl,rfl,_,rfl⟩⟩
end
abbrev Sp := List V → Hp → VK → XK → Prop
abbrev CXT := List Env → Hp → Shared → XK → Value → Shared → Prop
structure Env0 (P : Program) (w : World) (K : PySem.W.Frag) (mg : Str → Option Value) (base : Heap) (A : Around) (outer : List Env) (s : Shared) (H : Hp) : Prop where
  frames : A.frames = some outer
  mod : Mod K mg base
  bs : ∀ b o,base.get? b = some o → s.heap.get? b = some o ∧ H b = none
  bsz : base.objs.size ≤ s.heap.objs.size
  funs : s.heap.FunFrames base outer
  frf : ∀ b ∈ frs outer,H b = none
  hok : HOk P w H s.heap
  bare : AllBare s.gens
def CE (outer : List Env) (P : Program) (w : World) (H : Hp) (s : Shared) (Q : VK) (u : Value) (s' : Shared) : Prop :=
  ∃ v H',s'.os = s.os ∧ AllBare s'.gens ∧ Un (frs outer) [] H H' s.heap s'.heap ∧ HOk P w H' s'.heap ∧ RelV v u ∧ Q v H'
def CR (CX : CXT) (outer : List Env) (P : Program) (w : World) (H : Hp) (s : Shared) (Q : VK) (E : XK) (r : Result) (s' : Shared) : Prop :=
  match r with
  | .ok (.ret u) => CE outer P w H s Q u s'
  | .ok _ => False
  | .error e => CX outer H s E e s'
structure FnOk (P : Program) (w : World) (K : PySem.W.Frag) (mg : Str → Option Value) (base : Heap) (CX : CXT) (k : Nat) (f : Addr) (fd : FuncData) (ps : List Str) (sp : Sp) : Prop where
  len : ∀ vs H Q E,sp vs H Q E → vs.length = ps.length
  run : ∀ (A : Around) (outer : List Env) (s : Shared) (H : Hp) (args : Args) (us : List Value) (vs : List V) (Q : VK) (E : XK),Room k A → Env0 P w K mg base A outer s H → BindsTo s fd args (ps.zip us) → Vals vs us → sp vs H Q E →
    codeAny (model P w) A (.call (.ref f) args) (CR CX outer P w H s Q E) s
theorem FnOk.imp {P : Program} {w : World} {K : PySem.W.Frag} {mg : Str → Option Value} {base : Heap} {CX : CXT} {k : Nat} {f : Addr} {fd : FuncData} {ps : List Str} {sp sp' : Sp} (F : FnOk P w K mg base CX k f fd ps sp)
    (h : ∀ vs H Q E,sp' vs H Q E → sp vs H Q E) : FnOk P w K mg base CX k f fd ps sp' :=
  ⟨fun vs H Q E q => F.len vs H Q E (h _ _ _ _ q),fun A outer s H args us vs Q E hr he hb hv hs => F.run A outer s H args us vs Q E hr he hb hv (h _ _ _ _ hs)⟩
section
variable {X : Cx} {pins : List (Addr × Obj)} {σ : St} {H : Hp} {s s' : Shared}
theorem Inv.env0 (I : Inv X pins σ H s) : Env0 X.prog X.w X.K X.mg X.base X.A X.stack s H :=
  ⟨I.ok.frames,I.ok.mod,I.bs,Nat.le_trans I.ok.bsz I.sz,I.stack,I.stkFree,I.hok,I.bare⟩
theorem Inv.after {Q : VK} {u : Value} (I : Inv X pins σ H s) (h : CE X.stack X.prog X.w H s Q u s') : EP X pins σ Q u s' := by
  obtain ⟨v,H',os,bare,un,hok,r,q⟩ := h
  obtain ⟨hh,g,d,t,os'⟩ := s'
  obtain rfl : os' = s.os := os
  exact ⟨v,H',I.call (h' := hh) (g' := g) (d' := d) (t' := t) (ch := []) un hok bare (fun b z => absurd z (by simp)),r,q⟩
end
def tCall (sp : Sp) (dvs : List V) (E : XK) (t : TA) : TE := fun σ H Q => t σ H fun vs H1 => sp (vs ++ dvs) H1 Q E
def Binds (K : PySem.W.Frag) (fd : FuncData) (ps : List Str) (ds : List Value) : Prop :=
  ∀ (s : Shared) (us : List Value),K.In s.heap → (us ++ ds).length = ps.length → BindsTo s fd ⟨us,[]⟩ (ps.zip (us ++ ds))
theorem Binds.all {K : PySem.W.Frag} {fd : FuncData} {ps : List Str} (h : ∀ us : List Value,us.length = ps.length → bindArgs fd ⟨us,[]⟩ = pure (ps.zip us)) : Binds K fd ps [] := fun s us _ hl => by
  rw [List.append_nil] at hl ⊢
  exact .of_eq (h us hl)
def Passes (CX : CXT) (X : Cx) (E : XK) : Prop := ∀ (pins : List (Addr × Obj)) (σ : St) (H : Hp) (s : Shared) (e : Value) (s' : Shared),Inv X pins σ H s → CX X.stack H s E e s' → X.xe e s'
section
variable {X : Cx} {CX : CXT} {k : Nat} {f C : Addr} {fd : FuncData} {ps : List Str} {sp : Sp} {dvs : List V} {ds : List Value} {E : XK} {x m : Str} {p pos apos : Pos} {e o : Expr} {es : List Expr} {ta : TE} {t : TA}
theorem run_fn {pins : List (Addr × Obj)} {σ : St} {H : Hp} {s : Shared} {Q : VK} {us : List Value} {vs : List V} (F : FnOk X.prog X.w X.K X.mg X.base CX k f fd ps sp) (hr : Room k X.A) (hb : Binds X.K fd ps ds) (hd : Vals dvs ds) (hx : Passes CX X E)
    (I : Inv X pins σ H s) (r : Vals vs us) (h : sp (vs ++ dvs) H Q E) : wpAny (model X.prog X.w) X.A (call (.ref f) us) (EP X pins σ Q) X.xe s := by
  have r2 : Vals (vs ++ dvs) (us ++ ds) := r.append hd
  have hl : (us ++ ds).length = ps.length := by rw [← r2.length]; exact F.len _ _ _ _ h
  refine wpAny_call (codeAny_mono (F.run X.A X.stack s H ⟨us,[]⟩ (us ++ ds) (vs ++ dvs) Q E hr I.env0 (hb s us I.kIn hl) r2 h) fun r s' hq => ?_)
  cases r with
  | error e => exact hx pins σ H s e s' I hq
  | ok fl =>
    cases fl with
    | ret u => exact I.after hq
    | next => exact False.elim hq
    | brk => exact False.elim hq
    | cont => exact False.elim hq
theorem pe_call (F : FnOk X.prog X.w X.K X.mg X.base CX k f fd ps sp) (hr : Room k X.A) (hg : Gl X x) (hm : X.mg x = some (.ref f)) (hk : PySem.W.keepIn X.K (.ref f) = true) (hb : Binds X.K fd ps ds) (hd : Vals dvs ds) (hx : Passes CX X E)
    (ha : PA X (e :: es) t) (hdb : (x == ("__debug__" : Str)) = false := by decide) (he : starEach (e :: es) X.env = (false,eval e X.env) :: starEach es X.env := by rfl) (hpl : (backTo pos (starEach es X.env)).any (·.1) = false := by rfl) :
    PE X (.Call (.Name x p) (e :: es) [] pos) (tCall sp dvs E t) := by
  intro pins s σ H Q I h
  refine wpAny_Call_Name_kw (ld_glob I hg hm ?_ hdb)
  refine PySem.W.callWith_K (h₀ := X.base) I.ok.mod.kin hk (thn (ha pos pins s σ H _ I h) fun us s1 ⟨vs,H1,I1,r,q⟩ => ⟨I1.kIn,?_⟩) he hpl
  exact run_fn F hr hb hd hx I1 r q
end
section
variable {X : Cx} {CX : CXT} {k : Nat} {f C : Addr} {fd : FuncData} {ps ks : List Str} {sp : Sp} {E : XK} {x m : Str} {p pos apos kpos : Pos} {e o : Expr} {es : List Expr} {kws : List Keyword} {te ta : TE} {t tk : TA} {nm : Option Str}
variable {g : List Value → List Value → List Value} {gV : List V → List V → List V}
end
structure FnScope (N P : List Str) (sc : Scope) : Prop where
  kind : sc.kind = .function
  co : sc.isCoroutine = false
  gen : sc.isGenerator = false
  nd : N.Nodup
  pre : N.take P.length = P
  par : ∀ x ∈ P,sc.names.lookup x = some .local ∨ sc.names.lookup x = some .cell
  nofree : ∀ y ∈ sc.names,y.2 ≠ .free
theorem bindL_out {kindOf : Str → Option NameKind} {x : Str} : ∀ {binds : List (Str × Value)} {m : Str → Option Value},(∀ v,(x,v) ∉ binds) → bindL kindOf binds m x = m x
  | [],_,_ => rfl
  | (n,v) :: r,m,h => by
    unfold bindL
    rw [bindL_out fun w hw => h w (List.mem_cons_of_mem _ hw)]
    split
    · have : x ≠ n := by rintro rfl; exact h v List.mem_cons_self
      simp [this]
    · rfl
theorem bindC_out {kindOf : Str → Option NameKind} {x : Str} : ∀ {binds : List (Str × Value)} {m : Str → Option Value},(∀ v,(x,v) ∉ binds) → bindC kindOf binds m x = m x
  | [],_,_ => rfl
  | (n,v) :: r,m,h => by
    unfold bindC
    rw [bindC_out fun w hw => h w (List.mem_cons_of_mem _ hw)]
    split
    · rfl
    · have : x ≠ n := by rintro rfl; exact h v List.mem_cons_self
      simp [this]
theorem bindL_get {kindOf : Str → Option NameKind} {x : Str} {v : Value} : ∀ {P : List Str} {vs : List Value} {i : Nat} {m : Str → Option Value},P.Nodup → P[i]? = some x → vs[i]? = some v → kindOf x = some .local →
    bindL kindOf (P.zip vs) m x = some v
  | [],_,_,_,_,h,_,_ => by simp at h
  | _ :: _,[],_,_,_,_,h,_ => by simp at h
  | p :: P,w :: vs,0,m,nd,h1,h2,hk => by
    simp at h1 h2; subst h1; subst h2
    show bindL kindOf ((p,w) :: P.zip vs) m p = _
    unfold bindL
    rw [bindL_out fun v hv => (List.nodup_cons.mp nd).1 (List.of_mem_zip hv).1,if_pos hk]
    simp
  | p :: P,w :: vs,i + 1,m,nd,h1,h2,hk => by
    show bindL kindOf ((p,w) :: P.zip vs) m x = _
    unfold bindL
    exact bindL_get (i := i) (List.nodup_cons.mp nd).2 (by simpa using h1) (by simpa using h2) hk
theorem bindC_get {kindOf : Str → Option NameKind} {x : Str} {v : Value} : ∀ {P : List Str} {vs : List Value} {i : Nat} {m : Str → Option Value},P.Nodup → P[i]? = some x → vs[i]? = some v → kindOf x ≠ some .local →
    bindC kindOf (P.zip vs) m x = some v
  | [],_,_,_,_,h,_,_ => by simp at h
  | _ :: _,[],_,_,_,_,h,_ => by simp at h
  | p :: P,w :: vs,0,m,nd,h1,h2,hk => by
    simp at h1 h2; subst h1; subst h2
    show bindC kindOf ((p,w) :: P.zip vs) m p = _
    unfold bindC
    rw [bindC_out fun v hv => (List.nodup_cons.mp nd).1 (List.of_mem_zip hv).1,if_neg hk]
    simp
  | p :: P,w :: vs,i + 1,m,nd,h1,h2,hk => by
    show bindC kindOf ((p,w) :: P.zip vs) m x = _
    unfold bindC
    exact bindC_get (i := i) (List.nodup_cons.mp nd).2 (by simpa using h1) (by simpa using h2) hk
def start (N : List Str) (vs : List V) : St := vs.map some ++ List.replicate (N.length - vs.length) none
def cxOf (CX : CXT) (P : Program) (w : World) (K : PySem.W.Frag) (mg : Str → Option Value) (base : Heap) (N : List Str) (qual : Str) (scope : Scope) (f : Addr) (cd : Value) (A : Around) (outer : List Env) (s : Shared) (H : Hp) (E : XK) : Cx where
  prog := P
  w := w
  K := K
  mg := mg
  base := base
  A := A.deeper (envOfC qual scope s.heap.objs.size f cd)
  N := N
  s₀ := s
  H₀ := H
  env := envOfC qual scope s.heap.objs.size f cd
  outer := outer
  stack := envOfC qual scope s.heap.objs.size f cd :: outer
  ex := []
  calm := true
  fn := fun _ => true
  pn := []
  xe := fun e s' => wpAny (model P w) (A.deeper (envOfC qual scope s.heap.objs.size f cd)) (leaving (envOfC qual scope s.heap.objs.size f cd) e) (fun _ s'' => CX outer H s E e s'') (fun e' s'' => CX outer H s E e' s'') s'
theorem cell_has {sc : Scope} {n : Nat} {x : Str} (h : sc.names.lookup x = some .cell) : ∃ c,(cellsFrom n sc.names []).lookup x = some c := by
  have q := PySem.W.cellsFrom_some sc.names n [] (.inl h)
  exact Option.isSome_iff_exists.mp q
theorem inv_start {CX : CXT} {P : Program} {w : World} {K : PySem.W.Frag} {mg : Str → Option Value} {base : Heap} {N ps : List Str} {qual : Str} {scope : Scope} {f : Addr} {cd : Value} {A : Around} {outer : List Env} {s s1 : Shared} {H : Hp} {E : XK} {us : List Value} {vs : List V}
    (S : FnScope N ps scope) (hd : A.handled = none) (e0 : Env0 P w K mg base A outer s H) (hl : vs.length = ps.length) (r : Vals vs us)
    (x : InCallC s s.heap.objs.size (bindL (envOfC qual scope s.heap.objs.size f cd).kindOf (ps.zip us) fun _ => none) (cellsFrom (s.heap.objs.size + 1) scope.names []) (bindC (envOfC qual scope s.heap.objs.size f cd).kindOf (ps.zip us) fun _ => none) s1) :
    Inv (cxOf CX P w K mg base N qual scope f cd A outer s H E) [] (start N vs) H s1 := by
  have hpl : ps.length ≤ N.length := by have := congrArg List.length S.pre; rw [List.length_take] at this; omega
  obtain ⟨h1,tk,rfl,hk⟩ := x.done
  have noA : ∀ b : Addr,b ∉ (cxOf CX P w K mg base N qual scope f cd A outer s H E).ex := fun b z => absurd (show b ∈ ([] : List Addr) from z) (by simp)
  refine ⟨⟨e0.mod,S.kind,rfl,rfl,Nat.le_refl _,fun y z c h1 h2 => ?_,fun y hy => ?_,fun y c _ h => ?_,fun _ => hd,Around.frames_deeper e0.frames,.inr ⟨rfl,rfl⟩,fun b z => absurd z (noA b),e0.bs,e0.bsz,fun b _ _ => noA b,fun b z => absurd z (noA b),e0.funs,e0.frf⟩,
    rfl,e0.bare,Un.kept hk,⟨_,x.toInCall.ns,fun i y v h1 h2 h3 => ?_⟩,fun y c h => ⟨_,x.cell y c h⟩,e0.hok.fresh (Nat.le_refl _),fun y c h => ?_,fun p hp => absurd (show p ∈ ([] : List (Addr × Obj)) from hp) (by simp),e0.hok.kept hk,?_⟩
  · exact name_of_addr x.apart (PySem.mem_of_lookup h1) (PySem.mem_of_lookup h2)
  · have hy : scope.names.lookup y = some .cell ∨ scope.names.lookup y = some .free := hy
    rcases hy with hy | hy
    · exact cell_has hy
    · exact absurd rfl (S.nofree _ (PySem.mem_of_lookup hy))
  · exact Nat.le_of_lt (x.above y c (PySem.mem_of_lookup h))
  · have hi : i < vs.length := by
      unfold start at h2
      by_cases hi : i < vs.length
      · exact hi
      · rw [List.getElem?_append_right (by simpa using hi)] at h2
        rw [List.getElem?_replicate] at h2
        split at h2 <;> cases h2
    have ha : vs[i]? = some v := by
      unfold start at h2
      rw [List.getElem?_append_left (by simpa using hi),List.getElem?_map] at h2
      cases e : vs[i]? with
      | none => rw [e] at h2; cases h2
      | some a => rw [e] at h2; cases h2; rfl
    obtain ⟨u,hu,rv⟩ := r.get ha
    have hp : ps[i]? = some y := by
      rw [← S.pre,List.getElem?_take_of_lt (by omega)]; exact h1
    have ndP : ps.Nodup := by rw [← S.pre]; exact S.nd.sublist (List.take_sublist _ _)
    refine ⟨u,rv,?_⟩
    rcases S.par y (List.mem_of_getElem? hp) with k | k
    · exact .inl ⟨k,bindL_get ndP hp hu k⟩
    · obtain ⟨c,e⟩ := cell_has (n := s.heap.objs.size + 1) k
      refine .inr ⟨.inl k,c,e,?_⟩
      have q := x.cell y c e
      rw [bindC_get ndP hp hu (by show scope.names.lookup y ≠ _; rw [k]; decide)] at q
      exact q
  · exact e0.hok.fresh (Nat.le_of_lt (x.above y c (PySem.mem_of_lookup h)))
  · unfold start
    show _ = N.length
    rw [List.length_append,List.length_map,List.length_replicate]
    omega
theorem fn_of {CX : CXT} {P : Program} {w : World} {K : PySem.W.Frag} {mg : Str → Option Value} {base : Heap} {k : Nat} {f : Addr} {name qual : Str} {params : Arguments} {body : List Stmt} {scope : Scope} {dV kV doc pm cdv ct oc : Value} {an od : Option Addr}
    {osl : Array (Option Value)} {N ps : List Str} {sp : Sp} (lk : K.lookup f = some ⟨oc,od,.func (PySem.W.fnOf name qual params body scope dV kV doc pm an cdv ct),osl⟩) (hcd : PySem.W.codeIn K cdv qual = true) (S : FnScope N ps scope)
    (len : ∀ vs H Q E,sp vs H Q E → vs.length = ps.length)
    (hbody : ∀ (A : Around) (outer : List Env) (s : Shared) (H : Hp) (vs : List V) (Q : VK) (E : XK),Room k (A.deeper (envOfC qual scope s.heap.objs.size f cdv)) → sp vs H Q E →
      ∃ t,PSs (cxOf CX P w K mg base N qual scope f cdv A outer s H E) body t ∧ t { nx := fun _ H' => Q .non H',rt := Q } (start N vs) H) :
    FnOk P w K mg base CX (k + 1) f (PySem.W.fnOf name qual params body scope dV kV doc pm an cdv ct) ps sp := by
  refine ⟨len,fun A outer s H args us vs Q E hr e0 hb r hsp => ?_⟩
  have hl := len _ _ _ _ hsp
  have KX : K.In s.heap := e0.mod.kin.keeps fun b o e => (e0.bs b o e).1
  have lim : s.heap.NoLimit := e0.mod.nolimit.keeps fun b o e => (e0.bs b o e).1
  have hkind : ∀ y ∈ ps.zip us,scope.names.lookup y.1 = some .local ∨ (scope.names.lookup y.1 = some .cell ∧ ((cellsFrom (s.heap.objs.size + 1) scope.names []).lookup y.1).isSome = true) := fun ⟨n,v⟩ hy => by
    rcases S.par n (List.of_mem_zip hy).1 with q | q
    · exact .inl q
    · exact .inr ⟨q,PySem.W.cellsFrom_some _ _ _ (.inl q)⟩
  refine codeAny_call_function hr.depth (KX _ _ lk) rfl S.co S.gen rfl (PySem.W.codeRec_of KX hcd) (hb _ _ _ _ ?_)
  refine wpAny_newFunctionEnv_cells S.kind hkind fun env he s1 x => ?_
  subst he
  refine ⟨lim.keeps x.toInCall.keep,codeAny_func ?_⟩
  obtain ⟨t,ht,hq⟩ := hbody A outer s H vs Q E (hr.deeper _) hsp
  have I : Inv (cxOf CX P w K mg base N qual scope f cdv A outer s H E) [] (start N vs) H s1 := inv_start S hr.hd e0 hl r x
  refine wpAny_mono (ht [] s1 (start N vs) H _ I hq) (fun fl s' hs => ?_) fun e s' hs => hs
  have fin : ∀ {σ' : St} {H' : Hp} {v : V} {u : Value},Inv (cxOf CX P w K mg base N qual scope f cdv A outer s H E) [] σ' H' s' → RelV v u → Q v H' → CE outer P w H s Q u s' :=
    fun {σ' H' v u} J rv q => ⟨v,H',J.os,J.bare,J.base,J.hok,rv,q⟩
  cases fl with
  | ret u =>
    obtain ⟨v,σ',H',J,rv,q⟩ := hs
    exact fin J rv q
  | next =>
    obtain ⟨σ',H',J,q⟩ := hs
    exact fin (v := V.non) (u := Value.none) J rfl q
  | brk =>
    obtain ⟨_,_,_,q⟩ := hs
    exact False.elim q
  | cont =>
    obtain ⟨_,_,_,q⟩ := hs
    exact False.elim q
end L2
namespace L2
open PySem PySem.Spec PyProof.Rows
section
variable {X : Cx} {x : Str} {p pos : Pos} {e : Expr} {es : List Expr} {t : TA} {id T : String} {r : List V → Hp → VK → Prop}
def tCB (r : List V → Hp → VK → Prop) (t : TA) : TE := fun σ H Q => t σ H fun vs H1 => r vs H1 Q
theorem pe_callB (hc : CallR X (.builtin id) r) (hg : Gl X x) (hm : X.mg x = none) (hv : bootBuiltins x = some (.builtin id)) (ha : PA X (e :: es) t) (hn : x ≠ "__name__" := by decide) (hdb : (x == ("__debug__" : Str)) = false := by decide)
    (he : starEach (e :: es) X.env = (false,eval e X.env) :: starEach es X.env := by rfl) (hpl : (backTo pos (starEach es X.env)).any (·.1) = false := by rfl) : PE X (.Call (.Name x p) (e :: es) [] pos) (tCB r t) := by
  intro pins s σ H Q I h
  refine wpAny_Call_Name_kw (ld_blt I hg hm hv ?_ hn hdb)
  exact PyProof.Rows.callWith_builtin1 (thn (ha pos pins s σ H _ I h) fun us s1 ⟨vs,H1,I1,r1,q1⟩ => hc pins s1 σ H1 vs us Q I1 r1 q1) he hpl
theorem pe_callTy (hc : CallR X (.type T) r) (hg : Gl X x) (hm : X.mg x = none) (hv : bootBuiltins x = some (.type T)) (ha : PA X (e :: es) t) (hn : x ≠ "__name__" := by decide) (hdb : (x == ("__debug__" : Str)) = false := by decide)
    (he : starEach (e :: es) X.env = (false,eval e X.env) :: starEach es X.env := by rfl) (hpl : (backTo pos (starEach es X.env)).any (·.1) = false := by rfl) : PE X (.Call (.Name x p) (e :: es) [] pos) (tCB r t) := by
  intro pins s σ H Q I h
  refine wpAny_Call_Name_kw (ld_blt I hg hm hv ?_ hn hdb)
  exact PyProof.Rows.callWith_type1 (thn (ha pos pins s σ H _ I h) fun us s1 ⟨vs,H1,I1,r1,q1⟩ => hc pins s1 σ H1 vs us Q I1 r1 q1) he hpl
end
end L2
namespace HT
open PySem PyProof.Rows
section
open PySem.SeqAt
open PySem.AutoSeq1 (wpAny_loadPart')
open PySem.MeetsSeq PySem.MeetsSeq2 PySem.MeetsSeq3
end
section
variable {prog : Program} {w : World} {A : Around} {E : Value → Shared → Prop} {s : Shared}
def sIx (n d : Nat) : Option Int → Nat
  | none => d
  | some v => if v < 0 then (v + (n : Int)).toNat else min v.toNat n
theorem sIx_none (n d : Nat) : sIx n d none = d := rfl
theorem sIx_nat (n d k : Nat) : sIx n d (some (k : Int)) = min k n := by
  show (if (k : Int) < 0 then ((k : Int) + (n : Int)).toNat else min (k : Int).toNat n) = min k n
  rw [if_neg (by omega),Int.toNat_natCast]
end
end HT
namespace L2
open PySem PySem.Spec PyProof.Rows
abbrev TO := St → Hp → (Option Int → Hp → Prop) → Prop
def PO (X : Cx) (e : Option Expr) (t : TO) : Prop :=
  ∀ (pins : List (Addr × Obj)) (s : Shared) (σ : St) (H : Hp) (Q : Option Int → Hp → Prop),Inv X pins σ H s → t σ H Q →
    wpAny (model X.prog X.w) X.A (evalPart e X.env) (fun u s' => ∃ o H',Inv X pins σ H' s' ∧ IsPart u o ∧ Q o H') X.xe s
def tNoPart : TO := fun _ H Q => Q none H
def tPart (t : TE) : TO := fun σ H Q => t σ H fun x H1 => ∃ i,x = .int i ∧ Q (some i) H1
section
variable {X : Cx} {e : Expr} {te : TE} {lo hi : Option Expr} {tl th : TO} {pos p2 : Pos}
theorem po_none : PO X none tNoPart := by
  intro pins s σ H Q I h
  rw [evalPart_none]
  exact wpAny_pure ⟨none,H,I,.none,h⟩
theorem po_some (h : PE X e te) : PO X (some e) (tPart te) := by
  intro pins s σ H Q I hw
  rw [evalPart_some]
  refine thn (h pins s σ H _ I hw) fun u s1 ⟨x,H1,I1,r1,q1⟩ => ?_
  obtain ⟨i,rfl,q⟩ := q1
  obtain ⟨t,rfl⟩ := r1
  exact ⟨some i,H1,I1,.int i t,q⟩
def SlR (X : Cx) (r : V → Option Int → Option Int → Hp → VK → Prop) : Prop :=
  ∀ (pins : List (Addr × Obj)) (s : Shared) (σ : St) (H : Hp) (x : V) (v vl vu : Value) (lo hi : Option Int) (sl : Addr) (Q : VK),Inv X pins σ H s → RelV x v → s.heap.IsSliceOf sl vl vu .none → IsPart vl lo → IsPart vu hi → r x lo hi H Q →
    ∃ T id,typeLookup (.type T) "__getitem__" = pure (some (.builtin id)) ∧ s.TypeIs v T ∧ wpAny (model X.prog X.w) X.A (getItem v (.ref sl)) (EP X pins σ Q) X.xe s
def tSl (r : V → Option Int → Option Int → Hp → VK → Prop) (te : TE) (tl th : TO) : TE := fun σ H Q => te σ H fun x H1 => tl σ H1 fun l H2 => th σ H2 fun u H3 => r x l u H3 Q
theorem pe_slice {r : V → Option Int → Option Int → Hp → VK → Prop} (hr : SlR X r) (he : PE X e te) (hl : PO X lo tl) (hu : PO X hi th) : PE X (.Subscript e (.Slice lo hi none p2) pos) (tSl r te tl th) := by
  intro pins s σ H Q I h
  refine Subscript_ (thn (he pins s σ H _ I h) fun v s1 ⟨x,H1,I1,r1,q1⟩ => ?_)
  refine wpAny_Slice (thn (hl pins s1 σ H1 _ I1 q1) fun vl s2 ⟨l,H2,I2,pl,q2⟩ => thn (hu pins s2 σ H2 _ I2 q2) fun vu s3 ⟨u,H3,I3,pu,q3⟩ => ?_)
  rw [evalPart_none]
  refine wpAny_pure ?_
  have I4 : Inv X pins σ H3 { s3 with heap := s3.heap.push { cls := .type "slice",data := .fields #[vl,vu,.none] } } := I3.kept (t' := s3.toks) fun b ob q => Heap.get?_push_of_some _ q
  obtain ⟨T,id,hT,ht,hg⟩ := hr pins { s3 with heap := s3.heap.push { cls := .type "slice",data := .fields #[vl,vu,.none] } } σ H3 x v vl vu l u s3.heap.objs.size Q I4 r1 (Heap.IsSliceOf.new ..) pl pu q3
  show wpAny (model X.prog X.w) X.A (subscriptTail e (.Slice lo hi none p2) v (.ref s3.heap.objs.size)) (EP X pins σ Q) X.xe { s3 with heap := s3.heap.push { cls := .type "slice",data := .fields #[vl,vu,.none] } }
  exact tail_any (ops := [.ref s3.heap.objs.size,v]) ht hT hg (by with_unfolding_all rfl)
def cutV (xs : List V) (lo hi : Option Int) : List V := (xs.drop (HT.sIx xs.length 0 lo)).take (HT.sIx xs.length xs.length hi - HT.sIx xs.length 0 lo)
theorem cutV_length (xs : List V) (lo hi : Option Int) : (cutV xs lo hi).length ≤ xs.length := by
  unfold cutV
  rw [List.length_take,List.length_drop]
  omega
end
end L2
namespace L2
open PySem PySem.Spec PyProof.Rows
def ixN (n : Nat) (i : Int) : Option Nat := if 0 ≤ i then (if i < n then some i.toNat else none) else if -(n : Int) ≤ i then some (i + n).toNat else none
def atI {α : Type} (xs : List α) (i : Int) : Option α := (ixN xs.length i).bind fun j => xs[j]?
theorem ixN_seq {n : Nat} {i : Int} {j : Nat} (h : ixN n i = some j) : seqIndex? i n = some j ∧ j < n ∧ -(n : Int) ≤ i ∧ i < n := by
  unfold ixN at h
  by_cases h0 : 0 ≤ i
  · rw [if_pos h0] at h
    by_cases h1 : i < n
    · rw [if_pos h1] at h
      have e : i.toNat = j := Option.some.inj h
      exact ⟨by rw [seqIndex_of h0 h1,e],by omega,by omega,h1⟩
    · rw [if_neg h1] at h; cases h
  · rw [if_neg h0] at h
    by_cases h1 : -(n : Int) ≤ i
    · rw [if_pos h1] at h
      have e : (i + n).toNat = j := Option.some.inj h
      exact ⟨by rw [seqIndex_neg (by omega) h1,e],by omega,h1,by omega⟩
    · rw [if_neg h1] at h; cases h
theorem atI_get {α : Type} {xs : List α} {i : Int} {v : α} (h : atI xs i = some v) : ∃ j,seqIndex? i xs.length = some j ∧ xs[j]? = some v ∧ j < xs.length ∧ -(xs.length : Int) ≤ i ∧ i < xs.length := by
  unfold atI at h
  cases e : ixN xs.length i with
  | none => rw [e] at h; cases h
  | some j =>
    rw [e] at h
    obtain ⟨h1,h2,h3,h4⟩ := ixN_seq e
    exact ⟨j,h1,h,h2,h3,h4⟩
theorem atI_nat {α : Type} {xs : List α} {j : Nat} {v : α} (h : xs[j]? = some v) : atI xs (j : Int) = some v := by
  have hj : j < xs.length := (List.getElem?_eq_some_iff.mp h).1
  have e : ixN xs.length (j : Int) = some j := by
    unfold ixN
    rw [if_pos (by omega),if_pos (by omega)]; simp
  unfold atI; rw [e]; exact h
def PlainIx (b : Expr) : Prop := ∀ o i,subscripted b false o i = operate [o,i] (getItem o i)
def IxR (X : Cx) (r : R2) : Prop :=
  ∀ (value slice : Expr) (pins : List (Addr × Obj)) (s : Shared) (σ : St) (H : Hp) (x y : V) (v u : Value) (Q : VK),Inv X pins σ H s → RelV x v → RelV y u → r x y H Q →
    subscripted slice false v u = operate [v,u] (getItem v u) → wpAny (model X.prog X.w) X.A (subscriptTail value slice v u) (EP X pins σ Q) X.xe s
def MtR (X : Cx) (id : String) (r : V → List V → Hp → VK → Prop) : Prop :=
  ∀ (pins : List (Addr × Obj)) (s : Shared) (σ : St) (H : Hp) (x : V) (xs : List V) (v : Value) (us : List Value) (Q : VK),Inv X pins σ H s → RelV x v → Vals xs us → r x xs H Q →
    wpAny (model X.prog X.w) X.A (call (.builtin id) (v :: us)) (EP X pins σ Q) X.xe s
section
variable {X : Cx} {a b : Expr} {ta tb : TE} {pos : Pos}
theorem pe_ix {r : R2} (hr : IxR X r) (ha : PE X a ta) (hb : PE X b tb) (hs : PlainIx b) : PE X (.Subscript a b pos) (tOp r ta tb) := by
  intro pins s σ H Q I h
  exact Subscript_ (binT ha hb I h fun v u s2 x y H2 I2 rx ry q => hr a b pins s2 σ H2 x y v u Q I2 rx ry q (hs _ _))
def rIxL (K : PySem.W.Frag) : R2 := fun x y H Q => ∃ p xs i v,x = .ref p ∧ y = .int i ∧ SqL K H p xs ∧ atI xs i = some v ∧ Q v H
def rIxT (K : PySem.W.Frag) : R2 := fun x y H Q => ∃ p xs i v,x = .ref p ∧ y = .int i ∧ SqT K H p xs ∧ atI xs i = some v ∧ Q v H
theorem ix_list : IxR X (rIxL X.K) := by
  intro value slice pins s σ H x y v u Q I rx ry h hs
  obtain ⟨p,xs,i,z,rfl,rfl,hq,he,q⟩ := h
  cases rx
  obtain ⟨t,rfl⟩ := ry
  obtain ⟨its,r,pl,hz⟩ := I.list hq
  obtain ⟨j,h1,h2,h3,h4,h5⟩ := atI_get he
  obtain ⟨w,ew,rw'⟩ := r.get h2
  have hl := r.length
  have hn := line63
  have fin : EP X pins σ Q w s := ⟨z,H,I,rw',q⟩
  by_cases h0 : 0 ≤ i
  · have hj : i.toNat = j := by
      rw [seqIndex_of h0 h5] at h1
      exact Option.some.inj h1
    exact item_listR pl.isList h0 (by omega) (by rw [hj]; simpa using ew) fin hs
  · have hj : (i + (its.toArray.size : Int)).toNat = j := by
      rw [seqIndex_neg (by omega) h4] at h1
      rw [List.size_toArray,← hl]
      exact Option.some.inj h1
    exact subscriptTail_builtinR (x := w) pl.isList.typeIs slot_list_getitem.lookup
      (wpAny_getItem_list_neg (Q := fun r s' => r = w ∧ EP X pins σ Q r s') pl.isList (by omega) (by rw [List.size_toArray] <;> omega) (by omega) (by rw [hj]; simpa using ew) ⟨rfl,fin⟩) hs
theorem ix_tup : IxR X (rIxT X.K) := by
  intro value slice pins s σ H x y v u Q I rx ry h hs
  obtain ⟨p,xs,i,z,rfl,rfl,hq,he,q⟩ := h
  cases rx
  obtain ⟨t,rfl⟩ := ry
  obtain ⟨its,r,pl,hz⟩ := I.tuple hq
  obtain ⟨j,h1,h2,h3,h4,h5⟩ := atI_get he
  obtain ⟨w,ew,rw'⟩ := r.get h2
  have hl := r.length
  have hn := line63
  have fin : EP X pins σ Q w s := ⟨z,H,I,rw',q⟩
  exact subscriptTail_builtinR (x := w) pl.typeIs slot_tuple_getitem.lookup
    (getItem_tuple (j := j) (Q := fun r s' => r = w ∧ EP X pins σ Q r s') pl (by omega) (by omega) (by rw [List.size_toArray,← hl]; exact h1) (by simpa using ew) ⟨rfl,fin⟩) hs
theorem mapSeq_set (its : List Value) (n j : Nat) (u : Value) : Obj.mapSeq (·.setIfInBounds j u) { cls := .type "list",data := .seq its.toArray n } = { cls := .type "list",data := .seq (its.set j u).toArray n } := by
  simp [Obj.mapSeq]
theorem Inv.lst {pins : List (Addr × Obj)} {σ : St} {H : Hp} {s : Shared} {p : Addr} {xs : List V} (I : Inv X pins σ H s) (h : H p = some (.lst xs)) :
    ∃ (its : List Value) (n : Nat),Vals xs its ∧ s.heap.get? p = some { cls := .type "list",data := .seq its.toArray n } ∧ xs.length ≤ sizeLine := by
  obtain ⟨z,its,n,r,e⟩ := I.hok p _ h
  exact ⟨its,n,r,e,z⟩
theorem Inv.lstUpd {pins : List (Addr × Obj)} {σ : St} {H : Hp} {s : Shared} {p : Addr} {xs ys : List V} {its its' : List Value} {n n' : Nat} {f : Obj → Obj} (I : Inv X pins σ H s) (h : H p = some (.lst xs))
    (ho : s.heap.get? p = some { cls := .type "list",data := .seq its.toArray n }) (hf : f { cls := .type "list",data := .seq its.toArray n } = { cls := .type "list",data := .seq its'.toArray n' }) (r : Vals ys its') (hz : ys.length ≤ sizeLine) (t : Nat) :
    Inv X pins σ (upd H p (.lst ys)) { s with heap := s.heap.update p f,toks := t } := by
  have e : (s.heap.update p f).get? p = some { cls := .type "list",data := .seq its'.toArray n' } := by
    rw [Heap.get?_update_self f ho (by rw [hf] <;> rfl),hf]
  refine I.write (x := p) (e := p) (by rw [h]; trivial) (.inl rfl) (fun b u hb q => (Heap.get?_update_other _ _ (Ne.symm hb)).trans q) ⟨_,e⟩ ?_
  exact ⟨hz,its',n',r,e⟩
def rSetL : V → V → V → Hp → (Hp → Prop) → Prop := fun o i v H Q => ∃ p xs k j,o = .ref p ∧ i = .int k ∧ H p = some (.lst xs) ∧ ixN xs.length k = some j ∧ Q (upd H p (.lst (xs.set j v)))
theorem set_list : PSet X rSetL := by
  intro pins s σ H o i v ov iv u Q I ro ri rv h
  obtain ⟨p,xs,k,j,rfl,rfl,hp,hj,q⟩ := h
  cases ro
  obtain ⟨t,rfl⟩ := ri
  obtain ⟨its,n,r,ho,hz⟩ := I.lst hp
  obtain ⟨h1,h2,h3,h4⟩ := ixN_seq hj
  have hl := r.length
  have hn := line63
  have I' : Inv X pins σ (upd H p (.lst (xs.set j v))) { s with heap := s.heap.update p (Obj.mapSeq (·.setIfInBounds j u)) } :=
    I.lstUpd hp ho (mapSeq_set its n j u) (r.set rv j) (by rw [List.length_set]; exact hz) s.toks
  by_cases h0 : 0 ≤ k
  · have hk : k.toNat = j := by
      rw [seqIndex_of h0 h4] at h1
      exact Option.some.inj h1
    exact PySem.W.ki_setAt ho h0 (by omega) (by rw [List.size_toArray,← hl]; exact h4) (by rw [hk]; exact ⟨_,I',q⟩)
  · have hk : (k + (its.toArray.size : Int)).toNat = j := by
      rw [seqIndex_neg (by omega) h3] at h1
      rw [List.size_toArray,← hl]
      exact Option.some.inj h1
    exact PySem.W.ki_setBack ho (by omega) (by rw [List.size_toArray,← hl]; exact h3) (by omega) (by rw [hk]; exact ⟨_,I',q⟩)
theorem slice_bounds (lo hi : Option Int) (n : Nat) : (sliceBounds lo hi none n).1 = ((HT.sIx n 0 lo : Nat) : Int) ∧ (sliceBounds lo hi none n).2.1 = ((HT.sIx n n hi : Nat) : Int) ∧ (sliceBounds lo hi none n).2.2 = 1 := by
  refine ⟨?_,?_,rfl⟩
  · cases lo with
    | none => simp [sliceBounds,HT.sIx]
    | some i =>
      simp only [sliceBounds,HT.sIx,Option.getD_none,show (1 : Int) > 0 by decide,if_true]
      by_cases h : i < 0
      · simp only [h,if_true] <;> omega
      · simp only [h,if_false] <;> omega
  · cases hi with
    | none => simp [sliceBounds,HT.sIx]
    | some i =>
      simp only [sliceBounds,HT.sIx,Option.getD_none,show (1 : Int) > 0 by decide,if_true]
      by_cases h : i < 0
      · simp only [h,if_true] <;> omega
      · simp only [h,if_false] <;> omega
theorem slicePick_cut (its : List Value) (lo hi : Option Int) : slicePick its.toArray lo hi none = ((its.drop (HT.sIx its.length 0 lo)).take (HT.sIx its.length its.length hi - HT.sIx its.length 0 lo)).toArray := by
  obtain ⟨h1,h2,h3⟩ := slice_bounds lo hi its.toArray.size
  unfold slicePick
  rw [h1,h2,h3]
  simp only [sliceRange_one,pick_run,List.size_toArray] <;> rfl
def rSlL (K : PySem.W.Frag) : V → Option Int → Option Int → Hp → VK → Prop := fun x lo hi H Q => ∃ a xs,x = .ref a ∧ SqL K H a xs ∧ ∀ p,H p = none → Q (.ref p) (upd H p (.lst (cutV xs lo hi)))
theorem sl_list : SlR X (rSlL X.K) := by
  intro pins s σ H x v vl vu lo hi sl Q I rx hs pl pu h
  obtain ⟨a,xs,rfl,hx,q⟩ := h
  cases rx
  obtain ⟨its,r,ht,hz⟩ := I.list hx
  have hlen := r.length
  refine ⟨"list",_,slot_list_getitem.lookup,ht.isList.typeIs,?_⟩
  refine wpAny_getItem_list_slice ht.isList hs pl pu .none (by simp) ?_ (by rw [List.size_toArray] <;> omega)
  rw [slicePick_cut,← hlen]
  refine ⟨.ref s.heap.objs.size,_,I.laid (t' := s.toks) (o := .lst (cutV xs lo hi)) (fun b ob q => Heap.get?_push_of_some _ q) (Nat.le_refl _) ?_,rfl,q _ (I.hok.fresh (Nat.le_refl _))⟩
  exact ⟨Nat.le_trans (cutV_length xs lo hi) hz,_,0,(r.drop (HT.sIx xs.length 0 lo)).take (HT.sIx xs.length xs.length hi - HT.sIx xs.length 0 lo),Heap.get?_push_size _ rfl⟩
def flatV : V → Bool
  | .non => true
  | .bl _ => true
  | .int _ => true
  | .str _ => true
  | _ => false
def eqV : V → V → Bool
  | .non,.non => true
  | .bl a,.bl b => a == b
  | .bl a,.int b => (if a then 1 else 0) == b
  | .int a,.bl b => a == (if b then 1 else 0)
  | .int a,.int b => a == b
  | .str a,.str b => a == b
  | _,_ => false
theorem eqAt_V {A : Around} {s : Shared} {y x : V} {u v : Value} (ry : RelV y u) (rx : RelV x v) (fy : flatV y = true) (fx : flatV x = true) : SeqAt.EqAt A s u v (eqV y x) := by
  cases y with
  | non =>
    cases ry
    cases x with
    | non => cases rx; exact SeqAt.EqAt.same _
    | bl b => cases rx; exact SeqAt.EqAt.none_bool b
    | int b => obtain ⟨t,rfl⟩ := rx; exact SeqAt.EqAt.none_int b t
    | str b => obtain ⟨t,rfl⟩ := rx; exact SeqAt.EqAt.none_str b t
    | _ => exact absurd (show false = true from fx) Bool.false_ne_true
  | bl a =>
    cases ry
    cases x with
    | non => cases rx; exact SeqAt.EqAt.bool_none a
    | bl b => cases rx; exact SeqAt.EqAt.bool_bool a b
    | int b => obtain ⟨t,rfl⟩ := rx; exact SeqAt.EqAt.bool_int a b t
    | str b => obtain ⟨t,rfl⟩ := rx; exact SeqAt.EqAt.bool_str a b t
    | _ => exact absurd (show false = true from fx) Bool.false_ne_true
  | int a =>
    obtain ⟨t',rfl⟩ := ry
    cases x with
    | non => cases rx; exact SeqAt.EqAt.int_none a t'
    | bl b => cases rx; exact SeqAt.EqAt.int_bool a t' b
    | int b => obtain ⟨t,rfl⟩ := rx; exact SeqAt.EqAt.int_int a t' b t
    | str b => obtain ⟨t,rfl⟩ := rx; exact SeqAt.EqAt.int_str a t' b t
    | _ => exact absurd (show false = true from fx) Bool.false_ne_true
  | str a =>
    obtain ⟨t',rfl⟩ := ry
    cases x with
    | non => cases rx; exact SeqAt.EqAt.str_none a t'
    | bl b => cases rx; exact SeqAt.EqAt.str_bool a t' b
    | int b => obtain ⟨t,rfl⟩ := rx; exact SeqAt.EqAt.str_int a t' b t
    | str b => obtain ⟨t,rfl⟩ := rx; exact SeqAt.EqAt.str_str a t' b t
    | _ => exact absurd (show false = true from fx) Bool.false_ne_true
  | _ => exact absurd (show false = true from fy) Bool.false_ne_true
theorem call_len_seq : CallR X (.builtin "len") (fun xs H Q => ∃ p ys,xs = [.ref p] ∧ (SqL X.K H p ys ∨ SqT X.K H p ys) ∧ Q (.int ys.length) H) := by
  intro pins s σ H xs us Q I r h
  obtain ⟨p,ys,rfl,hq,q⟩ := h
  obtain ⟨u,rfl,rx⟩ := vals1 r
  cases rx
  have hn := line63
  rcases hq with hq | hq
  · obtain ⟨its,r',pl,hz⟩ := I.list hq
    have hlen := r'.length
    exact Calls.call_len_list pl.isList (by simp only [List.size_toArray] <;> omega) ⟨.int ys.length,H,I.tok _,⟨s.toks + 1,by rw [List.size_toArray,hlen]⟩,q⟩
  · obtain ⟨its,r',pl,hz⟩ := I.tuple hq
    have hlen := r'.length
    exact len_tuple pl (by simp only [List.size_toArray] <;> omega) ⟨.int ys.length,H,I.tok _,⟨s.toks + 1,by rw [List.size_toArray,hlen]⟩,q⟩
theorem call_list_of : CallR X (.type "list") (fun xs H Q => ∃ p ys,xs = [.ref p] ∧ (SqL X.K H p ys ∨ SqT X.K H p ys) ∧ ∀ l,H l = none → Q (.ref l) (upd H l (.lst ys))) := by
  intro pins s σ H xs us Q I r h
  obtain ⟨p,ys,rfl,hq,q⟩ := h
  obtain ⟨u,rfl,rx⟩ := vals1 r
  cases rx
  have fin : ∀ (its : List Value),Vals ys its → ys.length ≤ sizeLine → ∀ (h' : Heap) (c' : Nat),(∀ b o',s.heap.get? b = some o' → h'.get? b = some o') →
      h'.get? s.heap.objs.size = some { cls := .type "list",dict := none,data := .seq its.toArray c',slots := #[] } → EP X pins σ Q (.ref s.heap.objs.size) { s with heap := h' } := fun its r' hz h' c' kp e =>
    ⟨.ref s.heap.objs.size,_,I.laid (t' := s.toks) kp (Nat.le_refl _) (show ObjOk X.prog X.w _ h' _ (.lst ys) from ⟨hz,its,c',r',e⟩),rfl,q _ (I.hok.fresh (Nat.le_refl _))⟩
  rcases hq with hq | hq
  · obtain ⟨its,r',pl,hz⟩ := I.list hq
    have hlen := r'.length
    obtain ⟨o,ho,hc,n,hd⟩ := pl.isList
    exact call_list_seq p (.inl rfl) ho hc hd (fun h' c' kp e => fin its r' hz h' c' kp e) (by simp only [List.size_toArray] <;> omega)
  · obtain ⟨its,r',pl,hz⟩ := I.tuple hq
    have hlen := r'.length
    obtain ⟨o,ho,hc,n,hd⟩ := pl
    exact call_list_seq p (.inr rfl) ho hc hd (fun h' c' kp e => fin its r' hz h' c' kp e) (by simp only [List.size_toArray] <;> omega)
def tyV (K : PySem.W.Frag) (T : String) (x : V) (H : Hp) : Prop := match x with
  | .str _ => T = "str"
  | .int _ => T = "int"
  | .ref p => (T = "list" ∧ ∃ xs,SqL K H p xs) ∨ (T = "tuple" ∧ ∃ o,K.lookup p = some o ∧ o.cls = .type "tuple" ∧ o.dict = none) ∨
      (T = "dict" ∧ ((∃ kvs,H p = some (.dK kvs)) ∨ ∃ kvs,H p = some (.dT kvs))) ∨ (T = "set" ∧ ∃ S n,H p = some (.set S n))
  | _ => False
theorem tyV_is {pins : List (Addr × Obj)} {σ : St} {H : Hp} {s : Shared} {T : String} {x : V} {v : Value} (I : Inv X pins σ H s) (r : RelV x v) (ty : tyV X.K T x H) :
    s.TypeIs v T ∧ ∀ a,v = .ref a → ∃ ob,s.heap.get? a = some ob ∧ ob.dict = none := by
  cases x with
  | str z =>
    obtain ⟨t,rfl⟩ := r
    cases (show T = "str" from ty)
    exact ⟨typeIs_str s z t,fun _ e => nomatch e⟩
  | int i =>
    obtain ⟨t,rfl⟩ := r
    cases (show T = "int" from ty)
    exact ⟨typeIs_int s i t,fun _ e => nomatch e⟩
  | ref p =>
    cases r
    rcases ty with ⟨rfl,xs,hq⟩ | ⟨rfl,o,hk,hc,hd⟩ | ⟨rfl,hk⟩ | ⟨rfl,S,n,hk⟩
    · obtain ⟨its,_,pl,_⟩ := I.list hq
      refine ⟨pl.isList.typeIs,fun a e => ?_⟩
      cases e
      obtain ⟨o,n,e,c,hd,_⟩ := pl
      exact ⟨o,e,hd⟩
    · refine ⟨⟨o,I.kIn p o hk,hc⟩,fun a e => ?_⟩
      cases e
      exact ⟨o,I.kIn _ o hk,hd⟩
    · have z : ∃ o,s.heap.get? p = some o ∧ o.ExactDict := by
        rcases hk with ⟨kvs,hk⟩ | ⟨kvs,hk⟩
        · obtain ⟨_,_,_,_,o,_,_,e,ex,_⟩ := I.hok p _ hk
          exact ⟨o,e,ex⟩
        · obtain ⟨_,_,_,_,o,_,_,e,ex,_⟩ := I.hok p _ hk
          exact ⟨o,e,ex⟩
      obtain ⟨o,e,ex⟩ := z
      refine ⟨⟨o,e,ex.1⟩,fun a e2 => ?_⟩
      cases e2
      exact ⟨o,e,ex.2.1⟩
    · obtain ⟨o,_,_,_,e,ex,_⟩ := I.hok p _ hk
      refine ⟨⟨o,e,ex.1⟩,fun a e2 => ?_⟩
      cases e2
      exact ⟨o,e,ex.2.1⟩
  | _ => exact False.elim ty
def tBM0 (K : PySem.W.Frag) (T : String) (r : V → List V → Hp → VK → Prop) (to : TE) : TE := fun σ H Q => to σ H fun x H1 => tyV K T x H1 ∧ r x [] H1 Q
def tBM (K : PySem.W.Frag) (T : String) (r : V → List V → Hp → VK → Prop) (to : TE) (t : TA) : TE := fun σ H Q => to σ H fun x H1 => tyV K T x H1 ∧ t σ H1 fun xs H2 => r x xs H2 Q
variable {o e : Expr} {es : List Expr} {to : TE} {t : TA} {name : Str} {apos cpos : Pos} {T id : String} {r : V → List V → Hp → VK → Prop}
theorem pe_bm0 (pa : PlainAttrs T) (slot : Slot T name id) (hty : typeOf (.builtin id) = pure (.type "method_descriptor")) (hm : MtR X id r) (ho : PE X o to)
    (hbase : attributeBase o name X.env (eval o X.env) = eval o X.env := by rfl) (hline : (apos.endLine == cpos.line) = true := by rfl) : PE X (.Call (.Attribute o name apos) [] [] cpos) (tBM0 X.K T r to) := by
  intro pins s σ H Q I h
  refine wpAny_Call_method0_late hbase hline (thn (ho pins s σ H _ I h) fun v s1 ⟨x,H1,I1,r1,ty,q1⟩ => ?_)
  obtain ⟨h1,h2⟩ := tyV_is I1 r1 ty
  exact ⟨T,id,pa,slot,hty,h1,h2,Calls.callWith_builtin rfl (PySem.evalArgs_none (hm pins s1 σ H1 x [] v [] Q I1 r1 .nil q1))⟩
theorem pe_bm (pa : PlainAttrs T) (slot : Slot T name id) (hty : typeOf (.builtin id) = pure (.type "method_descriptor")) (hm : MtR X id r) (ho : PE X o to) (ha : PA X (e :: es) t)
    (hbase : attributeBase o name X.env (eval o X.env) = eval o X.env := by rfl)
    (hfew : ((backTo cpos (starEach (e :: es) X.env)).all (fun x => !x.1) && (backToKw cpos (keywordEach [] X.env)).all (fun x => x.1.isSome)
      && decide ((e :: es).length + ([] : List Keyword).length + (if ([] : List Keyword).isEmpty then 0 else 1) < 30)) = true := by rfl)
    (hline : (apos.endLine == cpos.line) = true := by rfl) (hs : starEach (e :: es) X.env = (false,eval e X.env) :: starEach es X.env := by rfl) (hplain : (backTo cpos (starEach es X.env)).any (·.1) = false := by rfl) :
    PE X (.Call (.Attribute o name apos) (e :: es) [] cpos) (tBM X.K T r to t) := by
  intro pins s σ H Q I h
  refine wpAny_Call_method_late hbase hfew hline rfl (thn (ho pins s σ H _ I h) fun v s1 ⟨x,H1,I1,r1,ty,q1⟩ => ?_)
  obtain ⟨h1,h2⟩ := tyV_is I1 r1 ty
  refine ⟨T,id,pa,slot,hty,h1,h2,?_⟩
  have hA := ha cpos pins s1 σ H1 _ I1 q1
  rw [hs] at hA ⊢
  refine Calls.callWith_builtin (by show (false || (backTo cpos (starEach es X.env)).any (·.1)) = false; rw [hplain] <;> rfl) (Calls.evalArgs_plain ?_)
  exact thn hA fun us s2 ⟨vs,H2,I2,r2,q2⟩ => hm pins s2 σ H2 x vs v us Q I2 r1 r2 q2
end
end L2
namespace L2
open PySem PySem.Spec PyProof.Rows
def MtM (X : Cx) (id : String) (r : V → List V → Hp → VK → Prop) : Prop :=
  ∀ (pins : List (Addr × Obj)) (s : Shared) (σ : St) (H : Hp) (x : V) (xs : List V) (v : Value) (us : List Value) (Q : VK),Inv X pins σ H s → RelV x v → Vals xs us → r x xs H Q →
    wpAny (model X.prog X.w) X.A (call (.builtin id) (v :: us)) (EP X pins σ Q) X.xe s
theorem Vals.one : ∀ {x : V} {us : List Value},Vals [x] us → ∃ u,us = [u] ∧ RelV x u
  | _,_,.cons r .nil => ⟨_,rfl,r⟩
theorem Vals.zero : ∀ {us : List Value},Vals [] us → us = []
  | _,.nil => rfl
theorem Vals.reverse {xs : List V} {us : List Value} (h : Vals xs us) : Vals xs.reverse us.reverse := by
  induction h with
  | nil => exact .nil
  | cons r t ih => rw [List.reverse_cons,List.reverse_cons]; exact Vals.append ih (.cons r .nil)
section
variable {X : Cx} {pins : List (Addr × Obj)} {σ : St} {H : Hp} {s : Shared} {l b : Addr} {xs ys zs : List V}
theorem Inv.lset {its its' : List Value} {n : Nat} {f : Array Value → Array Value} {t' : Nat} (I : Inv X pins σ H s) (hH : H l = some (.lst xs))
    (e : s.heap.get? l = some { cls := .type "list",data := .seq its.toArray n }) (hf : f its.toArray = its'.toArray) (hv : Vals ys its') (hz : ys.length ≤ sizeLine) :
    Inv X pins σ (upd H l (.lst ys)) { s with heap := s.heap.update l (Obj.mapSeq f),toks := t' } := by
  have q := PySem.IsL.update e f
  rw [hf] at q
  refine I.write (x := l) (e := l) (by rw [hH]; exact trivial) (.inl rfl) (fun b' u hb hu => (Heap.get?_update_other s.heap (Obj.mapSeq f) (Ne.symm hb)).trans hu) ⟨_,q⟩ ?_
  exact ⟨hz,its',_,hv,q⟩
theorem Inv.lnew {its : List Value} {t' : Nat} (I : Inv X pins σ H s) (hv : Vals ys its) (hz : ys.length ≤ sizeLine) :
    Inv X pins σ (upd H s.heap.objs.size (.lst ys)) { s with heap := s.heap.push { cls := .type "list",data := .seq its.toArray },toks := t' } :=
  I.laid (fun _ _ q => Heap.get?_push_of_some _ q) (Nat.le_refl _) ⟨hz,its,0,hv,Heap.get?_push_size _ rfl⟩
theorem Inv.fresh (I : Inv X pins σ H s) : H s.heap.objs.size = none := I.hok.fresh (Nat.le_refl _)
theorem Inv.lstM (I : Inv X pins σ H s) (hH : H l = some (.lst xs)) : xs.length ≤ sizeLine ∧ ∃ (its : List Value) (n : Nat),Vals xs its ∧ xs.length = its.length ∧ s.heap.get? l = some { cls := .type "list",data := .seq its.toArray n } := by
  obtain ⟨z,its,n,r,e⟩ := I.hok l _ hH
  exact ⟨z,its,n,r,r.length,e⟩
theorem notLongL {n : Nat} (h : n ≤ sizeLine) : Builtin.List.listTooLong n = false := by
  unfold Builtin.List.listTooLong
  exact decide_eq_false (by omega)
end
section
variable {X : Cx}
def rAppend : V → List V → Hp → VK → Prop := fun x vs H Q => ∃ l xs y,x = .ref l ∧ vs = [y] ∧ H l = some (.lst xs) ∧ xs.length < sizeLine ∧ Q .non (upd H l (.lst (xs ++ [y])))
theorem mt_append : MtM X "list.append" rAppend := by
  intro pins s σ H x vs v us Q I rx rv h
  obtain ⟨l,xs,y,rfl,rfl,hH,hz,q⟩ := h
  cases rx
  obtain ⟨u,rfl,ru⟩ := rv.one
  obtain ⟨z,its,n,r,hl,e⟩ := I.lstM hH
  refine call_meets F.slot_list_append ⟨_,e,rfl⟩ F.entry_list_append (F.args_list_append_2 _ _) (PySem.list_append l its.toArray n u (by rw [List.size_toArray]; omega)) ⟨e,?_⟩
  refine ⟨.non,_,I.lset (its' := its ++ [u]) hH e (by simp) (r.append (.cons ru .nil)) ?_,rfl,q⟩
  rw [List.length_append,List.length_singleton]
  omega
def rExtend : V → List V → Hp → VK → Prop := fun x vs H Q => ∃ l b xs zs,x = .ref l ∧ vs = [.ref b] ∧ H l = some (.lst xs) ∧ H b = some (.lst zs) ∧ xs.length + zs.length ≤ sizeLine ∧ Q .non (upd H l (.lst (xs ++ zs)))
theorem mt_extend : MtM X "list.extend" rExtend := by
  intro pins s σ H x vs v us Q I rx rv h
  obtain ⟨l,b,xs,zs,rfl,rfl,hH,hB,hz,q⟩ := h
  cases rx
  obtain ⟨u,rfl,ru⟩ := rv.one
  cases ru
  obtain ⟨z,its,n,r,hl,e⟩ := I.lstM hH
  obtain ⟨z2,its2,n2,r2,hl2,e2⟩ := I.lstM hB
  have hsz : its.toArray.size + its2.toArray.size ≤ sizeLine := by rw [List.size_toArray,List.size_toArray]; omega
  have hlong : ¬ (!its.toArray.isEmpty && Builtin.List.listTooLong (its.toArray.size + its2.toArray.size)) = true := by
    rw [notLongL hsz,Bool.and_false]
    exact Bool.false_ne_true
  refine call_meets F.slot_list_extend ⟨_,e,rfl⟩ F.entry_list_extend (F.args_list_extend_2 _ _)
    (AutoSeq1.list_extend_list_list_0 l its.toArray n b its2.toArray n2 hlong (by rw [List.size_toArray]; omega) (by omega)) ⟨e,e2,?_⟩
  refine ⟨.non,_,I.lset (its' := its ++ its2) hH e (by simp) (r.append r2) ?_,rfl,q⟩
  rw [List.length_append]
  omega
def rClear : V → List V → Hp → VK → Prop := fun x vs H Q => ∃ l xs,x = .ref l ∧ vs = [] ∧ H l = some (.lst xs) ∧ Q .non (upd H l (.lst []))
theorem mt_clear : MtM X "list.clear" rClear := by
  intro pins s σ H x vs v us Q I rx rv h
  obtain ⟨l,xs,rfl,rfl,hH,q⟩ := h
  cases rx
  have hus := rv.zero
  subst hus
  obtain ⟨z,its,n,r,hl,e⟩ := I.lstM hH
  refine call_meets F.slot_list_clear ⟨_,e,rfl⟩ F.entry_list_clear (F.args_list_clear_1 _) (AutoSeq1.list_clear_list_0 l its.toArray n (by rw [List.size_toArray]; omega)) ⟨e,?_⟩
  exact ⟨.non,_,I.lset (its' := []) (ys := []) hH e rfl .nil (Nat.zero_le _),rfl,q⟩
def rCat : R2 := fun x y H Q => ∃ l b xs zs,x = .ref l ∧ y = .ref b ∧ H l = some (.lst xs) ∧ H b = some (.lst zs) ∧ xs.length + zs.length ≤ sizeLine ∧ ∀ p,H p = none → Q (.ref p) (upd H p (.lst (xs ++ zs)))
theorem op_cat : OpR X (binaryOp .Add) rCat := by
  intro pins s σ H x y v u Q I rx ry h
  obtain ⟨l,b,xs,zs,rfl,rfl,hH,hB,hz,q⟩ := h
  cases rx
  cases ry
  obtain ⟨z,its,n,r,hl,e⟩ := I.lstM hH
  obtain ⟨z2,its2,n2,r2,hl2,e2⟩ := I.lstM hB
  refine PySem.P.add_list e e2 ?_ (by rw [List.size_toArray,List.size_toArray]; omega)
  have ea : its.toArray ++ its2.toArray = (its ++ its2).toArray := by simp
  rw [ea]
  exact ⟨.ref _,_,I.lnew (t' := s.toks) (r.append r2) (by rw [List.length_append]; omega),rfl,q _ I.fresh⟩
end
section
variable {prog : Program} {w : World} {A : Around} {E : Value → Shared → Prop} {s : Shared}
set_option maxRecDepth 100000 in
end
section
variable {X : Cx}
end
end L2
namespace Att
open PySem PySem.W PySem.Calls PyProof.Rows
theorem ints_of_wellAll {P : Params} {h : Heap} : ∀ (ns : List Int) (vs : List Value),WellAll P h vs (ns.map WData.int) → IntsAre vs ns := by
  intro ns
  induction ns with
  | nil =>
    intro vs w
    rw [List.map_nil] at w
    cases w
    exact .nil
  | cons n ns ih =>
    intro vs w
    rw [List.map_cons] at w
    cases w with
    | cons a b =>
      cases a
      exact .cons _ _ (ih _ b)
theorem script_of {l : OpenLaw} {n : Nat} (hn : l.most = some n) {P : Params} {h : Heap} {args : List WData} {vals : List Value}
    (hpre : l.row.toRowW.claim.pre args = true) (hwl : WellAll P h vals args) :
    ∃ a vs ns,vals = [Value.ref a] ∧ args = [WData.list (ns.map WData.int)] ∧ h.get? a = some { cls := .type "list",data := .seq vs.toArray } ∧ IntsAre vs ns ∧ ns.length ≤ n := by
  have hsh : WShape.hasAll [] args [.list .int] = true := (pre_splitW hpre).1
  have hc : l.pre.holds [] { args := args } = true := (pre_splitW hpre).2
  obtain ⟨d,r,rfl,h1,h2⟩ := hasAllW_cons hsh
  obtain rfl := hasAllW_nil h2
  obtain ⟨xs,rfl,h3⟩ := hasW_list h1
  obtain ⟨ns,rfl⟩ := items_int h3
  have hlen : ns.length ≤ n := by
    unfold OpenLaw.pre at hc
    have h4 : (WTm.not (.lt (.lit (.int (n : Int))) (.len (.arg 0)))).holds [] { args := [.list (ns.map .int)] } = true := by
      have h4 := (holds_andW hc).1
      rw [hn] at h4
      exact h4
    have h5 := condW_of h4 (w_not (w_lt w_lit (w_len_list (w_arg rfl))))
    rw [List.length_map] at h5
    refine Nat.le_of_not_lt fun q => ?_
    have q' : (n : Int) < ((ns.length : Nat) : Int) := by omega
    first
      | (rw [decide_eq_true q'] at h5; exact absurd h5 (by decide))
      | (simp at h5; omega)
  cases hwl with
  | cons w1 w2 =>
    cases w2
    cases w1 with
    | list ho hall => exact ⟨_,_,ns,rfl,rfl,ho,ints_of_wellAll ns _ hall,hlen⟩
theorem post_true (l : OpenLaw) (args : List WData) : l.row.toRowW.claim.post args (.bool true) args = true :=
  postW_of (r := l.row.toRowW) (X := (true == true))
    (show WShape.has [] (.bool true) .bool = true by first | rfl | decide | simp [WShape.has,WShape.arms,WShape.armsAll])
    (show (WTm.eq .res (.lit (.bool true))).value [] { args := args,res := some (.bool true),after := args } = some (.bool (true == true)) from w_eq_bool (w_res rfl) w_lit) rfl
theorem attach_call {l : OpenLaw} {n : Nat} {q : Program} {loose : List Str} {XP : (Str → Option Value) → Heap → Prop} {YP : World → Heap → Prop} {d : DefRec}
    (hn : l.most = some n) (hdf : d.params.defaults = [])
    (call : ∀ (w : World) (s₀ s₁ : Shared) (mg mb : Str → Option Value) (fa : Addr) (o : Obj) (pm cd doc : Value) (a : Addr) (vs : List Value) (ns : List Int),
      Ground q loose [] XP w s₀ mg mb s₁.heap → YP w s₁.heap →
      s₁.heap.get? fa = some o → o.data = .func (docDef d.name d.params d.body d.scope pm cd doc) → s₁.heap.CodeRec cd d.name → mg d.name = some (.ref fa) →
      s₁.heap.get? a = some { cls := .type "list",data := .seq vs.toArray } → IntsAre vs ns → ns.length ≤ n → s₁.gens = #[] →
      codeAny (model l.prog w) callerA (.call (.ref fa) ⟨[.ref a],[]⟩) (fun r s' => r = .ok (.ret (.bool true)) ∧ OldK s₁.heap s'.heap ∧ s'.os = s₁.os ∧ AllBare s'.gens) s₁) :
    WalkO q loose XP YP l.row.toRowW d [] (fun f vs => PySem.call f vs) := by
  intro w s₀ s₁ mg mb G Y fa o pm cd doc dV kV ho hd hcd hD hmg hg args vals as hpre hlay hrd hwl hlo
  obtain rfl : dV = .none := Dflts.none hD hdf
  obtain rfl : kV = .none := Dflts.noKw hD
  obtain ⟨a,vs,ns,rfl,rfl,hobj,hints,hlen⟩ := script_of hn hpre hwl
  refine enter_call (codeAny_mono (call w s₀ s₁ mg mb fa o pm cd doc a vs ns G Y ho (fd_plain hd) hcd hmg hobj hints hlen hg) fun r s' hq => ?_)
  obtain ⟨rfl,h2,h3,h4⟩ := hq
  exact ⟨.inl ⟨.bool true,.bool true,[],rfl,fun _ => rfl,.bool true,post_true l _,fun _ => ⟨List.Pairwise.nil,fun _ hm => (nomatch hm)⟩⟩,h2,h3,h4⟩
section
variable {prog : Program} {w : World} {A : Around} {E : Value → Shared → Prop} {s : Shared} {K : Frag}
end
end Att
namespace L2
open PySem PySem.Spec PyProof.Rows
theorem vals_ints : ∀ {vs : List Value} {ns : List Int},IntsAre vs ns → Vals (ns.map V.int) vs
  | _,_,.nil => .nil
  | _,_,.cons n t h => .cons ⟨t,rfl⟩ (vals_ints h)
end L2
namespace L2
open PySem PySem.Spec PyProof.Rows
end L2
namespace L2
open PySem PySem.Spec PyProof.Rows
def defArgs (s : Stmt) : Arguments := match s with
  | .FunctionDef _ a _ _ _ _ _ _ _ _ => a
  | _ => { posonlyargs := [],args := [],vararg := none,kwonlyargs := [],kw_defaults := [],kwarg := none,defaults := [] }
def defBody (s : Stmt) : List Stmt := match s with
  | .FunctionDef _ _ b _ _ _ _ _ _ _ => b
  | _ => []
def defScope (s : Stmt) : Scope := match s with
  | .FunctionDef _ _ _ _ _ _ sc _ _ _ => sc
  | _ => { kind := .function,names := [],isGenerator := false,isCoroutine := false }
abbrev CX0 : CXT := fun _ _ _ _ _ _ => False
abbrev E0 : XK := fun _ _ _ => False
theorem pass0 {X : Cx} : Passes CX0 X E0 := fun _ _ _ _ _ _ _ h => h.elim
section
variable {P : Program} {w : World} {K : PySem.W.Frag} {mg : Str → Option Value} {base : Heap}
end
theorem hu_of {A : Around} {k : Nat} (hr : Room k A) : A.units + 1 < cLine := Nat.lt_of_le_of_lt (Nat.add_le_add_left (by decide : 1 ≤ 64) _) hr.units
theorem small1000 {n : Nat} (h : n ≤ 1000) : n < sizeLine := Nat.lt_of_le_of_lt h (by decide)
section
variable {X : Cx}
theorem pv (i : Nat) {x : Str} {pos : Pos} (hN : X.N[i]? = some x := by rfl) (hv : Vis X.env.scope x := by first | exact Or.inl rfl | exact Or.inr (Or.inl rfl) | exact Or.inr (Or.inr rfl)) (hd : (x == ("__debug__" : Str)) = false := by decide)
    (hcd : (x == ("__classdict__" : Str)) = false := by decide) : PE X (.Name x pos) (tVar i) := pe_var hN hv hd hcd
end
theorem iteF {A B : Prop} (h : B) : if false = true then A else B := by
  rw [if_neg Bool.false_ne_true]
  exact h
theorem iteT {A B : Prop} (h : A) : if true = true then A else B := by
  rw [if_pos rfl]
  exact h
def Same (H H' : Hp) : Prop := ∀ b o,H b = some o → H' b = some o
theorem Same.refl (H : Hp) : Same H H := fun _ _ h => h
theorem Same.trans {H H1 H2 : Hp} (a : Same H H1) (b : Same H1 H2) : Same H H2 := fun c o h => b c o (a c o h)
theorem Same.free {H H' : Hp} (e : Same H H') {l : Addr} (h : H' l = Option.none) : H l = Option.none := by
  cases q : H l with
  | none => rfl
  | some o =>
    rw [e l o q] at h
    cases h
theorem Same.seq {K : PySem.W.Frag} {H H' : Hp} {a : Addr} {xs : List V} (e : Same H H') (h : SqL K H a xs) : SqL K H' a xs := by
  rcases h with (h | ⟨o,h⟩) | h
  · exact .inl (.inl (e _ _ h))
  · exact .inl (.inr ⟨o,e _ _ h⟩)
  · exact .inr h
end L2
end
section
set_option Elab.async false
set_option linter.all false
set_option maxRecDepth 100000
set_option maxHeartbeats 4000000
namespace Mth
theorem gcd_step {a b : Int} (ha : 0 ≤ a) (hb : 0 < b) : Int.gcd b (a % b) = Int.gcd a b := by
  obtain ⟨m,rfl⟩ := Int.eq_ofNat_of_zero_le ha
  obtain ⟨n,rfl⟩ := Int.eq_ofNat_of_zero_le (Int.le_of_lt hb)
  rw [← Int.natCast_emod]
  show Nat.gcd (n : Int).natAbs ((m % n : Nat) : Int).natAbs = Nat.gcd (m : Int).natAbs (n : Int).natAbs
  simp only [Int.natAbs_natCast]
  rw [Nat.gcd_comm m n,Nat.gcd_comm n (m % n)]
  exact (Nat.gcd_rec n m).symm
theorem gcd_abs (a b : Int) : Int.gcd (if a < 0 then -a else a) b = Int.gcd a b := by
  split
  · exact Int.neg_gcd
  · rfl
theorem gcd_abs' (a b : Int) : Int.gcd a (if b < 0 then -b else b) = Int.gcd a b := by
  rw [Int.gcd_comm,gcd_abs,Int.gcd_comm]
theorem gcd_zero {a : Int} (ha : 0 ≤ a) : (Int.gcd a 0 : Int) = a := by
  rw [Int.gcd_zero]; omega
structure Low (t b : Int) : Prop where
  pos : 1 ≤ b
  one : Int.gcd t b = 1
theorem gcd_pos {a b : Int} (h : b ≠ 0) : 0 < (Int.gcd a b : Int) := by
  have := Int.gcd_pos_of_ne_zero_right a h
  omega
theorem div_eq (a b : Int) : a = a / (Int.gcd a b : Int) * (Int.gcd a b : Int) := (Int.ediv_mul_cancel (Int.gcd_dvd_left a b)).symm
theorem div_eq' (a b : Int) : b = b / (Int.gcd a b : Int) * (Int.gcd a b : Int) := (Int.ediv_mul_cancel (Int.gcd_dvd_right a b)).symm
theorem div_low {a b : Int} (hb : 0 < b) : Low (a / (Int.gcd a b : Int)) (b / (Int.gcd a b : Int)) := by
  have hg := gcd_pos (a := a) (b := b) (by omega)
  refine ⟨?_,?_⟩
  · have h1 := div_eq' a b
    have h2 : 0 < b / (Int.gcd a b : Int) := Int.ediv_pos_of_pos_of_dvd hb (by omega) (Int.gcd_dvd_right a b)
    omega
  · rw [Int.gcd_ediv (Int.gcd_dvd_left a b) (Int.gcd_dvd_right a b)]
    simp only [Int.natAbs_natCast]
    exact Nat.div_self (by omega)
theorem low_dvd {t b t' b' : Int} (h : Low t b) (e : t * b' = t' * b) : b ∣ b' := by
  have h1 : b.natAbs ∣ t.natAbs * b'.natAbs := by
    rw [← Int.natAbs_mul,e,Int.natAbs_mul]
    exact Nat.dvd_mul_left _ _
  have h2 : Nat.Coprime b.natAbs t.natAbs := by
    have := h.one
    unfold Nat.Coprime
    rw [Nat.gcd_comm]
    exact this
  exact Int.natAbs_dvd_natAbs.mp (h2.dvd_of_dvd_mul_left h1)
theorem low_unique {t b t' b' : Int} (h : Low t b) (h' : Low t' b') (e : t * b' = t' * b) : t = t' ∧ b = b' := by
  have d1 := low_dvd h e
  have d2 := low_dvd h' e.symm
  have p1 := h.pos
  have p2 := h'.pos
  have eb : b = b' := Int.le_antisymm (Int.le_of_dvd (by omega) d1) (Int.le_of_dvd (by omega) d2)
  subst eb
  exact ⟨Int.eq_of_mul_eq_mul_right (by omega) e,rfl⟩
structure Frac (top bottom t b : Int) : Prop where
  low : Low t b
  eq : top * b = t * bottom
theorem frac_pos {a b : Int} (hb : 0 < b) : Frac a b (a / (Int.gcd a b : Int)) (b / (Int.gcd a b : Int)) := by
  refine ⟨div_low hb,?_⟩
  have h1 := div_eq a b
  have h2 := div_eq' a b
  generalize a / (Int.gcd a b : Int) = x at *
  generalize b / (Int.gcd a b : Int) = y at *
  generalize (Int.gcd a b : Int) = g at *
  subst h1 h2
  grind
theorem frac_fdiv {a b : Int} (hb : b ≠ 0) (d : Int) (hd : d = if b < 0 then -(Int.gcd a b : Int) else (Int.gcd a b : Int)) : Frac a b (a.fdiv d) (b.fdiv d) := by
  have hg := gcd_pos (a := a) (b := b) hb
  by_cases h : b < 0
  · rw [if_pos h] at hd
    have f := frac_pos (a := -a) (b := -b) (by omega)
    rw [Int.gcd_neg,Int.neg_gcd] at f
    subst hd
    have e1 : a.fdiv (-(Int.gcd a b : Int)) = -a / (Int.gcd a b : Int) := by
      rw [← Int.neg_fdiv_neg,Int.neg_neg]; exact Int.fdiv_eq_ediv_of_nonneg _ (by omega)
    have e2 : b.fdiv (-(Int.gcd a b : Int)) = -b / (Int.gcd a b : Int) := by
      rw [← Int.neg_fdiv_neg,Int.neg_neg]; exact Int.fdiv_eq_ediv_of_nonneg _ (by omega)
    rw [e1,e2]
    exact ⟨f.low,by have := f.eq; grind⟩
  · rw [if_neg h] at hd
    subst hd
    rw [Int.fdiv_eq_ediv_of_nonneg _ (by omega),Int.fdiv_eq_ediv_of_nonneg _ (by omega)]
    exact frac_pos (by omega)
theorem frac_unique {a b t u t' u' : Int} (hb : b ≠ 0) (h : Frac a b t u) (h' : Frac a b t' u') : t = t' ∧ u = u' := by
  refine low_unique h.low h'.low ?_
  have e1 := h.eq
  have e2 := h'.eq
  have : b * (t * u') = b * (t' * u) := by grind
  exact Int.eq_of_mul_eq_mul_left hb this
theorem frac_self {t u : Int} (h : Low t u) : Frac t u t u := ⟨h,rfl⟩
end Mth
namespace L2
open PySem PySem.Spec PyProof.Rows
abbrev bits (i : Int) : Nat := Builtin.Int.intBits i
theorem bits_of {i : Int} {n : Nat} (h : i.natAbs < 2 ^ n) : bits i ≤ n := intBits_le h
theorem bits_lt {i : Int} {n : Nat} (h : bits i ≤ n) : i.natAbs < 2 ^ n := by
  unfold bits Builtin.Int.intBits at h
  by_cases h0 : i = 0
  · subst h0
    exact Nat.pos_of_ne_zero (by simp)
  · rw [if_neg (by simpa using h0)] at h
    have h1 : i.natAbs ≠ 0 := by omega
    exact (Nat.log2_lt h1).mp (by omega)
theorem bits_mono {i j : Int} {n : Nat} (h : i.natAbs ≤ j.natAbs) (hj : bits j ≤ n) : bits i ≤ n := bits_of (Nat.lt_of_le_of_lt h (bits_lt hj))
theorem bits_mul {i j : Int} {m n : Nat} (hi : bits i ≤ m) (hj : bits j ≤ n) : bits (i * j) ≤ m + n := by
  refine bits_of ?_
  rw [Int.natAbs_mul,Nat.pow_add]
  exact Nat.mul_lt_mul'' (bits_lt hi) (bits_lt hj)
theorem bits_add {i j : Int} {n : Nat} (hi : bits i ≤ n) (hj : bits j ≤ n) : bits (i + j) ≤ n + 1 := by
  refine bits_of ?_
  have h1 := bits_lt hi
  have h2 := bits_lt hj
  have h3 : (2 : Nat) ^ (n + 1) = 2 * 2 ^ n := by rw [Nat.pow_succ,Nat.mul_comm]
  omega
theorem bits_sub {i j : Int} {n : Nat} (hi : bits i ≤ n) (hj : bits j ≤ n) : bits (i - j) ≤ n + 1 := by
  refine bits_of ?_
  have h1 := bits_lt hi
  have h2 := bits_lt hj
  have h3 : (2 : Nat) ^ (n + 1) = 2 * 2 ^ n := by rw [Nat.pow_succ,Nat.mul_comm]
  omega
theorem bits_neg {i : Int} {n : Nat} (hi : bits i ≤ n) : bits (-i) ≤ n := bits_mono (by omega) hi
theorem bits_ediv {i j : Int} {n : Nat} (hj : 0 < j) (hi : bits i ≤ n) : bits (i / j) ≤ n := by
  refine bits_mono ?_ hi
  exact Int.natAbs_ediv_le_natAbs i j
theorem bits_fdiv {i j : Int} {n : Nat} (hi : bits i ≤ n) : bits (i.fdiv j) ≤ n := PySem.intBits_fdiv_le hi
theorem bits_range {i b : Int} {n : Nat} (h0 : 0 ≤ i) (h1 : i ≤ b) (hb : bits b ≤ n) : bits i ≤ n := bits_mono (by omega) hb
theorem bits_le {i : Int} {m n : Nat} (h : bits i ≤ m) (hm : m ≤ n) : bits i ≤ n := Nat.le_trans h hm
section
variable {X : Cx} {pos : Pos}
def CM (i j : Int) : Prop := IntMulOk i j
theorem CM.b {i j : Int} {m n : Nat} (hi : bits i ≤ m) (hj : bits j ≤ n) (hm : m ≤ 2 ^ 20) (hn : n ≤ 2 ^ 20) : CM i j := IntMulOk.of_bits (Nat.le_trans hi hm) (Nat.le_trans hj hn)
theorem CM.l {i j : Int} (h : -(2 ^ 64) < i ∧ i < 2 ^ 64) : CM i j := CMul.ok (.inl h)
theorem CM.r {i j : Int} (h : -(2 ^ 64) < j ∧ j < 2 ^ 64) : CM i j := CMul.ok (.inr h)
theorem op_mulX : OpR X (binaryOp .Mult) (rI CM fun i j => .int (i * j)) := opI fun _ _ _ _ _ _ _ hc q => mul_int q hc
def CD (_ j : Int) : Prop := 0 < j ∧ bits j ≤ 8000
theorem log2_of_bits {j : Int} {n : Nat} (hj : j ≠ 0) (h : bits j ≤ n) (hn : n ≤ 9000) : j.natAbs.log2 < 9000 := by
  have h1 : j.natAbs ≠ 0 := by omega
  have h2 := (Nat.log2_lt h1).mpr (bits_lt h)
  omega
theorem op_fdivP : OpR X (binaryOp .FloorDiv) (rI CD fun i j => .int (i / j)) := opI fun i j _ _ _ _ _ hc q => by
  have h1 : (0 : Int) < j := hc.1
  exact floordiv_int (by omega) (by rw [Int.fdiv_eq_ediv_of_nonneg i (by omega)]; exact q) (.inl (PyProof.noPylong_of_log2 (log2_of_bits (by omega) hc.2 (by decide))))
def CDZ (_ j : Int) : Prop := j ≠ 0 ∧ bits j ≤ 8000
theorem op_fdivZ : OpR X (binaryOp .FloorDiv) (rI CDZ fun i j => .int (i.fdiv j)) := opI fun i j _ _ _ _ _ hc q =>
  floordiv_int hc.1 q (.inl (PyProof.noPylong_of_log2 (log2_of_bits hc.1 hc.2 (by decide))))
end
theorem bt_int : bootBuiltins "int" = some (.type "int") := by decide +kernel
theorem bt_bool : bootBuiltins "bool" = some (.type "bool") := by decide +kernel
theorem bt_tuple : bootBuiltins "tuple" = some (.type "tuple") := by decide +kernel
theorem bt_list : bootBuiltins "list" = some (.type "list") := by decide +kernel
theorem bt_dict : bootBuiltins "dict" = some (.type "dict") := by decide +kernel
theorem bt_isinstance : bootBuiltins "isinstance" = some (.builtin "isinstance") := by decide +kernel
theorem bt_abs : bootBuiltins "abs" = some (.builtin "abs") := by decide +kernel
theorem bt_len : bootBuiltins "len" = some (.builtin "len") := by decide +kernel
theorem bt_min : bootBuiltins "min" = some (.builtin "min") := by decide +kernel
theorem bt_max : bootBuiltins "max" = some (.builtin "max") := by decide +kernel
theorem pe_ty {X : Cx} {x : Str} {T : String} {pos : Pos} (hm : X.mg x = none) (hv : bootBuiltins x = some (.type T)) (hg : Gl X x := by rfl) (hn : x ≠ "__name__" := by decide) (hd : (x == ("__debug__" : Str)) = false := by decide) :
    PE X (.Name x pos) (tC (.ty T)) := pe_bltn hg hm hv rfl hn hd
inductive Kn (H : Hp) : V → String → Prop where
  | non : Kn H .non "NoneType"
  | bl (b : Bool) : Kn H (.bl b) "bool"
  | int (i : Int) : Kn H (.int i) "int"
  | str (x : Str) : Kn H (.str x) "str"
  | lst {a : Addr} {xs : List V} (e : H a = some (.lst xs)) : Kn H (.ref a) "list"
  | tup {a : Addr} {xs : List V} (e : H a = some (.tup xs)) : Kn H (.ref a) "tuple"
  | dict {a : Addr} {kvs : List (Key × V)} (e : H a = some (.dK kvs)) : Kn H (.ref a) "dict"
theorem Kn.ty {K : PySem.W.Frag} {H : Hp} {x : V} {t : String} (k : Kn H x t) : TyOf K H x (.type t) := by
  cases k with
  | non => exact .non
  | bl b => exact .bl b
  | int i => exact .int i
  | str x => exact .str x
  | lst e => exact .lst e
  | tup e => exact .tup e
  | dict e => exact .dK e
theorem Kn.mono {H H' : Hp} {x : V} {t : String} (k : Kn H x t) (s : Same H H') : Kn H' x t := by
  cases k with
  | non => exact .non
  | bl b => exact .bl b
  | int i => exact .int i
  | str x => exact .str x
  | lst e => exact .lst (s _ _ e)
  | tup e => exact .tup (s _ _ e)
  | dict e => exact .dict (s _ _ e)
def isSub (t T : String) : Bool := t == T || (t == "bool" && T == "int")
def Nice (T : String) : Prop := T = "int" ∨ T = "bool" ∨ T = "tuple" ∨ T = "list" ∨ T = "str"
theorem kit_of (K : PySem.W.Frag) {H : Hp} {x : V} {t T : String} (k : Kn H x t) (n : Nice T) : PySem.W.kitOne K (.type t) (.type T) = some (isSub t T) := by
  rcases n with rfl | rfl | rfl | rfl | rfl <;> cases k <;> kernel_rfl
theorem call_isinst {X : Cx} : CallR X (.builtin "isinstance") (fun xs H Q => ∃ x t T,xs = [x,.ty T] ∧ Kn H x t ∧ Nice T ∧ Q (.bl (isSub t T)) H) := by
  intro pins s σ H xs us Q I rs h
  obtain ⟨x,t,T,rfl,k,n,q⟩ := h
  obtain ⟨u,v,rfl,ru,rv⟩ := vals2 rs
  cases (show v = Value.type T from rv)
  exact isinst_ok I ru k.ty (kit_of X.K k n) fun tk => ⟨.bl _,H,I.tok _,rfl,q⟩
structure Fn (P : Program) (w : World) (K : PySem.W.Frag) (mg : Str → Option Value) (base : Heap) (x : Str) (ps : List Str) (k : Nat) (sp : Sp) : Prop where
  ex : ∃ (f : Addr) (fd : FuncData) (o : Obj),mg x = some (.ref f) ∧ PySem.W.keepIn K (.ref f) = true ∧ (∀ us : List Value,us.length = ps.length → bindArgs fd ⟨us,[]⟩ = pure (ps.zip us)) ∧ (K.lookup f = some o ∧ o.data = .func fd) ∧ FnOk P w K mg base CX0 k f fd ps sp
theorem pe_fn {X : Cx} {x : Str} {ps : List Str} {k : Nat} {sp : Sp} {p pos : Pos} {e : Expr} {es : List Expr} {t : TA} (F : Fn X.prog X.w X.K X.mg X.base x ps k sp) (hr : Room k X.A) (hg : Gl X x) (ha : PA X (e :: es) t)
    (hdb : (x == ("__debug__" : Str)) = false := by decide) (he : starEach (e :: es) X.env = (false,eval e X.env) :: starEach es X.env := by rfl) (hpl : (backTo pos (starEach es X.env)).any (·.1) = false := by rfl) :
    PE X (.Call (.Name x p) (e :: es) [] pos) (tCall sp [] E0 t) := by
  obtain ⟨f,fd,o,hm,hk,hb,_,G⟩ := F.ex
  exact pe_call G hr hg hm hk (.all hb) .nil pass0 ha hdb he hpl
structure Df (K : PySem.W.Frag) (mg : Str → Option Value) (x : Str) (st : Stmt) : Prop where
  ex : ∃ (f : Addr) (oc : Value) (od : Option Addr) (kV doc pm : Value) (an : Option Addr) (cdv ct : Value) (osl : Array (Option Value)),
    mg x = some (.ref f) ∧ K.lookup f = some ⟨oc,od,.func (PySem.W.fnOf x x (defArgs st) (defBody st) (defScope st) .none kV doc pm an cdv ct),osl⟩ ∧ PySem.W.codeIn K cdv x = true ∧ PySem.W.keepIn K (.ref f) = true
theorem df_mk {K : PySem.W.Frag} {mg : Str → Option Value} {h : Heap} {x : Str} {st : Stmt} {f : Addr} {oc : Value} {od an : Option Addr} {osl : Array (Option Value)} {kV doc pm cdv ct : Value} (X : K.In h) (G : h.Ns mainGlobals mg)
    (a : PySem.W.nsIn K mainGlobals x = some (some (.ref f))) (l : K.lookup f = some ⟨oc,od,.func (PySem.W.fnOf x x (defArgs st) (defBody st) (defScope st) .none kV doc pm an cdv ct),osl⟩) (c : PySem.W.codeIn K cdv x = true) (k : PySem.W.keepIn K (.ref f) = true) :
    Df K mg x st := ⟨⟨f,oc,od,kV,doc,pm,an,cdv,ct,osl,PySem.W.mg_of X G a,l,c,k⟩⟩
theorem Df.fn {P : Program} {w : World} {K : PySem.W.Frag} {mg : Str → Option Value} {base : Heap} {x : Str} {st : Stmt} {N ps : List Str} {k : Nat} {sp : Sp} (D : Df K mg x st) (S : FnScope N ps (defScope st))
    (hbind : ∀ (kV doc pm : Value) (an : Option Addr) (cdv ct : Value) (us : List Value),us.length = ps.length → bindArgs (PySem.W.fnOf x x (defArgs st) (defBody st) (defScope st) .none kV doc pm an cdv ct) ⟨us,[]⟩ = pure (ps.zip us))
    (len : ∀ vs H Q E,sp vs H Q E → vs.length = ps.length)
    (hbody : ∀ (f : Addr) (cdv : Value) (A : Around) (outer : List Env) (s : Shared) (H : Hp) (vs : List V) (Q : VK) (E : XK),Room k (A.deeper (envOfC x (defScope st) s.heap.objs.size f cdv)) → sp vs H Q E →
      ∃ t,PSs (cxOf CX0 P w K mg base N x (defScope st) f cdv A outer s H E).nox (defBody st) t ∧ t { nx := fun _ H' => Q .non H',rt := Q } (start N vs) H) : Fn P w K mg base x ps (k + 1) sp := by
  obtain ⟨f,oc,od,kV,doc,pm,an,cdv,ct,osl,hm,lk,hcd,hk⟩ := D.ex
  refine ⟨⟨f,_,_,hm,hk,hbind kV doc pm an cdv ct,⟨lk,rfl⟩,fn_of lk hcd S len fun A outer s H vs Q E hr hsp => ?_⟩⟩
  obtain ⟨t,h,q⟩ := hbody f cdv A outer s H vs Q E hr hsp
  exact ⟨t,h.nox,q⟩
theorem law_fd {P : Program} {w : World} {K : PySem.W.Frag} {mg : Str → Option Value} {fa : Addr} {k : Nat} {sp : Sp} (h : Heap) (hfa : mg "law" = some (.ref fa)) (F : ∀ base : Heap,Fn P w K mg base "law" ["script"] k sp) :
    ∃ fd : FuncData,(∀ (s : Shared) (v : Value),BindsTo s fd ⟨[v],[]⟩ [("script",v)]) ∧ ∀ base : Heap,K.In base → base.Ns mainGlobals mg → FnOk P w K mg base CX0 k fa fd ["script"] sp := by
  obtain ⟨f,fd,o,hm,_,hb,⟨hl,hd⟩,_⟩ := (F h).ex
  rw [hfa] at hm
  cases hm
  refine ⟨fd,fun s v => .of_eq (hb [v] rfl),fun base _ _ => ?_⟩
  obtain ⟨f',fd',o',hm',_,_,⟨hl',hd'⟩,G⟩ := (F base).ex
  rw [hfa] at hm'
  cases hm'
  rw [hl] at hl'
  cases hl'
  rw [hd] at hd'
  cases hd'
  exact G
theorem Same.new {H : Hp} {p : Addr} {o : HO} (h : H p = none) : Same H (upd H p o) := fun b o' e => by
  rw [upd_ne (ne_of_none e h)]
  exact e
theorem ite3 {c : Bool} {A B : Prop} (h1 : c = true → A) (h2 : c = false → B) : if c = true then A else B := by
  cases c with
  | true => exact iteT (h1 rfl)
  | false => exact iteF (h2 rfl)
theorem iteFalse {b : Bool} {A B : Prop} (hb : b = false) (h : B) : if b = true then A else B := by
  subst hb
  exact iteF h
def forBody (s : Stmt) : List Stmt := match s with
  | .For _ _ b _ _ => b
  | _ => []
def isIntV : V → Bool
  | .int _ => true
  | _ => false
end L2
namespace Sp1
open PySem PySem.Spec L2 Mth
def spWhole : Sp := fun vs H Q _ => ∃ x t,vs = [x] ∧ Kn H x t ∧ Q (.bl (isIntV x)) H
def spGcd : Sp := fun vs H Q _ => ∃ a b : Int,vs = [.int a,.int b] ∧ Q (.int (Int.gcd a b : Int)) H
def spLess : Sp := fun vs H Q _ => ∃ (p q : Addr) (a b c d : Int),vs = [.ref p,.ref q] ∧ H p = some (.tup [.int a,.int b]) ∧ H q = some (.tup [.int c,.int d]) ∧ (bits a ≤ 2000 ∧ bits b ≤ 2000 ∧ bits c ≤ 2000 ∧ bits d ≤ 2000) ∧ Q (.bl (decide (a * d < c * b))) H
def spFloor : Sp := fun vs H Q _ => ∃ (p : Addr) (a b : Int),vs = [.ref p] ∧ H p = some (.tup [.int a,.int b]) ∧ (0 < b ∧ bits b ≤ 2000) ∧ Q (.int (a / b)) H
def lowB (a b : Int) : Bool := decide (1 ≤ b) && decide (Int.gcd a b = 1)
def lowL : List V → Bool
  | [.int a,.int b] => lowB a b
  | _ => false
def lowV (H : Hp) : V → Bool
  | .ref p => match H p with
    | some (.tup xs) => lowL xs
    | _ => false
  | _ => false
structure Thing (H : Hp) (x : V) : Prop where
  kn : ∃ t,Kn H x t
  parts : ∀ p xs,x = .ref p → H p = some (.tup xs) → ∀ y ∈ xs,∃ t,Kn H y t
def spLow : Sp := fun vs H Q _ => ∃ x,vs = [x] ∧ Thing H x ∧ Q (.bl (lowV H x)) H
theorem whole_sub {H : Hp} {x : V} {t : String} (k : Kn H x t) : (isSub t "int" = true → (!isSub t "bool") = isIntV x) ∧ (isSub t "int" = false → isIntV x = false) := by
  cases k with
  | non => exact ⟨fun h => absurd h (by decide),fun _ => rfl⟩
  | bl b => exact ⟨fun _ => (show (!isSub "bool" "bool") = false by decide),fun h => absurd h (by decide)⟩
  | int i => exact ⟨fun _ => (show (!isSub "int" "bool") = true by decide),fun h => absurd h (by decide)⟩
  | str x => exact ⟨fun h => absurd h (by decide),fun _ => rfl⟩
  | lst e => exact ⟨fun h => absurd h (by decide),fun _ => rfl⟩
  | tup e => exact ⟨fun h => absurd h (by decide),fun _ => rfl⟩
  | dict e => exact ⟨fun h => absurd h (by decide),fun _ => rfl⟩
theorem abs_nonneg (a : Int) : 0 ≤ (if a < 0 then -a else a) := by split <;> omega
theorem Kn.cases_int {H : Hp} {y : V} {t : String} (k : Kn H y t) : (∃ a,y = .int a ∧ t = "int") ∨ ((∀ a,y ≠ .int a) ∧ isIntV y = false) := by
  cases k with
  | int a => exact .inl ⟨a,rfl,rfl⟩
  | non => exact .inr ⟨fun a e => (nomatch e),rfl⟩
  | bl b => exact .inr ⟨fun a e => (nomatch e),rfl⟩
  | str x => exact .inr ⟨fun a e => (nomatch e),rfl⟩
  | lst e => exact .inr ⟨fun a e => (nomatch e),rfl⟩
  | tup e => exact .inr ⟨fun a e => (nomatch e),rfl⟩
  | dict e => exact .inr ⟨fun a e => (nomatch e),rfl⟩
theorem Kn.cases_tup {H : Hp} {y : V} {t : String} (k : Kn H y t) : (∃ p xs,y = .ref p ∧ H p = some (.tup xs) ∧ t = "tuple") ∨ (lowV H y = false ∧ isSub t "tuple" = false) := by
  cases k with
  | tup e => exact .inl ⟨_,_,rfl,e,rfl⟩
  | non => exact .inr ⟨rfl,by decide⟩
  | bl b => exact .inr ⟨rfl,by decide⟩
  | str x => exact .inr ⟨rfl,by decide⟩
  | int a => exact .inr ⟨rfl,by decide⟩
  | lst e => exact .inr ⟨by simp only [lowV,e],by decide⟩
  | dict e => exact .inr ⟨by simp only [lowV,e],by decide⟩
theorem lowV_tup {H : Hp} {p : Addr} {xs : List V} (e : H p = some (.tup xs)) : lowV H (.ref p) = lowL xs := by simp only [lowV,e]
theorem lowL_len {xs : List V} (h : xs.length ≠ 2) : lowL xs = false := by
  unfold lowL
  split
  · exact absurd rfl h
  · rfl
theorem lowL_fst {y z : V} (h : ∀ a,y ≠ .int a) : lowL [y,z] = false := by
  unfold lowL
  split
  · rename_i a b e
    cases e
    exact absurd rfl (h a)
  · rfl
theorem lowL_snd {y z : V} (h : ∀ a,z ≠ .int a) : lowL [y,z] = false := by
  unfold lowL
  split
  · rename_i a b e
    cases e
    exact absurd rfl (h b)
  · rfl
theorem sz {n : Nat} (h : n ≤ 1000) : n ≤ sizeLine := Nat.le_of_lt (small1000 h)
theorem grow {H : Hp} {p : Addr} {o : HO} (h : H p = none) : ∃ H1,upd H p o = H1 ∧ Same H H1 ∧ H1 p = some o := ⟨_,rfl,Same.new h,upd_same⟩
theorem atI_mem {α : Type} {xs : List α} {k : Int} (h0 : 0 ≤ k) (h1 : k < (xs.length : Int)) : ∃ v,atI xs k = some v ∧ v ∈ xs := by
  have hk : k.toNat < xs.length := by omega
  have ek : k = ((k.toNat : Nat) : Int) := by omega
  have q := atI_nat (xs := xs) (j := k.toNat) (List.getElem?_eq_getElem hk)
  rw [← ek] at q
  exact ⟨xs[k.toNat],q,List.getElem_mem hk⟩
theorem th_tup {H : Hp} {p : Addr} {xs : List V} (e : H p = some (.tup xs)) (h : ∀ y ∈ xs,∃ t,Kn H y t) : Thing H (.ref p) := ⟨⟨_,.tup e⟩,fun p' ys e1 e2 => by
  cases e1
  rw [e] at e2
  cases e2
  exact h⟩
theorem gcd_bits2 {a b : Int} {n : Nat} (hb : b ≠ 0) (h : bits b ≤ n) : bits (Int.gcd a b : Int) ≤ n := by
  refine bits_mono ?_ h
  have h1 : (Int.gcd a b) ∣ b.natAbs := Int.gcd_dvd_natAbs_right a b
  have h2 := Nat.le_of_dvd (by omega) h1
  omega
end Sp1
namespace L2
open PySem PySem.Spec PyProof.Rows
theorem all_same (ns ms : List Int) : ((List.range (min ns.length ms.length)).all (fun j => decide (ns[j]? = ms[j]?)) && ns.length == ms.length) = decide (ns = ms) := by
  rw [Bool.eq_iff_iff]
  simp only [Bool.and_eq_true,List.all_eq_true,List.mem_range,decide_eq_true_eq,beq_iff_eq]
  constructor
  · rintro ⟨h1,h2⟩
    refine List.ext_getElem? fun j => ?_
    by_cases hj : j < ns.length
    · exact h1 j (by omega)
    · rw [List.getElem?_eq_none (by omega),List.getElem?_eq_none (by omega)]
  · rintro rfl
    exact ⟨fun _ _ => rfl,rfl⟩
theorem val_at {ns : List Int} {us : List Value} {j : Nat} (r : Vals (ns.map V.int) us) (h : j < us.length) : ∃ a,ns[j]? = some a ∧ RelV (.int a) us[j] := by
  have hl := r.length
  rw [List.length_map] at hl
  have hj : j < ns.length := by omega
  obtain ⟨u,e,q⟩ := r.get (i := j) (x := .int ns[j]) (by rw [List.getElem?_map,List.getElem?_eq_getElem hj]; rfl)
  rw [List.getElem?_eq_getElem h] at e
  cases e
  exact ⟨ns[j],List.getElem?_eq_getElem hj,q⟩
section
variable {X : Cx}
def rEqI (K : PySem.W.Frag) (neg : Bool) : R2 := fun x y H Q => ∃ (p q : Addr) (ns ms : List Int),x = .ref p ∧ y = .ref q ∧ SqT K H p (ns.map V.int) ∧ SqT K H q (ms.map V.int) ∧ Q (.bl (if neg then !decide (ns = ms) else decide (ns = ms))) H
theorem items_eq {A : Around} {s : Shared} {ns ms : List Int} {us vs : List Value} (r : Vals (ns.map V.int) us) (r' : Vals (ms.map V.int) vs) (j : Nat) (h1 : j < us.toArray.size) (h2 : j < vs.toArray.size) :
    SeqAt.EqAt A s us.toArray[j] vs.toArray[j] (decide (ns[j]? = ms[j]?)) := by
  rw [List.size_toArray] at h1 h2
  obtain ⟨a,ea,ra⟩ := val_at r h1
  obtain ⟨b,eb,rb⟩ := val_at r' h2
  have q := eqAt_V (A := A) (s := s) ra rb rfl rfl
  have e : eqV (.int a) (.int b) = decide (ns[j]? = ms[j]?) := by
    rw [ea,eb]
    show (a == b) = decide (some a = some b)
    rw [Bool.eq_iff_iff]
    simp
  rw [e] at q
  exact q
theorem op_neI (hu : X.A.units < cLine) : OpR X (compareOp .NotEq) (rEqI X.K true) := by
  intro pins s σ H x y v u Q I rx ry h
  obtain ⟨p,q,ns,ms,rfl,rfl,hp,hq,k⟩ := h
  cases rx
  cases ry
  obtain ⟨its,r,pl,_⟩ := I.tuple hp
  obtain ⟨jts,r',pl',_⟩ := I.tuple hq
  refine SeqAt.RcNeAt.tuples pl pl' hu (items_eq r r') _ _ _ _ ⟨.bl _,H,I,rfl,?_⟩
  have e1 := r.length
  have e2 := r'.length
  rw [List.length_map] at e1 e2
  rw [List.size_toArray,List.size_toArray,← e1,← e2,all_same]
  exact k
end
end L2
namespace L2
open PySem PySem.Spec PyProof.Rows
section
variable {prog : Program} {w : World} {A : Around} {E : Value → Shared → Prop}
end
end L2
namespace L2
open PySem PySem.Spec PyProof.Rows
theorem ObjOk.has {P : Program} {w : World} {H : Hp} {h : Heap} {a : Addr} {o : HO} (x : ObjOk P w H h a o) : ∃ ob,h.get? a = some ob := by
  cases o with
  | lst xs => obtain ⟨_,_,_,_,e⟩ := x; exact ⟨_,e⟩
  | tup xs => obtain ⟨_,_,_,ob,e,_⟩ := x; exact ⟨_,e⟩
  | dK kvs => obtain ⟨_,_,_,_,ob,_,_,e,_⟩ := x; exact ⟨_,e⟩
  | dT kvs => obtain ⟨_,_,_,_,ob,_,_,e,_⟩ := x; exact ⟨_,e⟩
  | set S n => obtain ⟨ob,_,_,_,e,_⟩ := x; exact ⟨_,e⟩
  | ins C dx fs => obtain ⟨_,_,_,e,_⟩ := x; exact ⟨_,e⟩
  | own y => obtain ⟨ob,e⟩ := x; exact ⟨_,e⟩
  | xd fs => obtain ⟨_,⟨od,_,_,e,_⟩,_⟩ := x; exact ⟨_,e⟩
  | rng lo hi => obtain ⟨_,_,_,e⟩ := x; exact ⟨_,e⟩
  | frz ob u => obtain ⟨e,_⟩ := x; exact ⟨_,e⟩
  | tbl ps => exact ⟨_,(show h.get? a = some _ from x)⟩
  | met f y => exact ⟨_,(show h.get? a = some _ from x)⟩
  | ext φ => obtain ⟨_,⟨ob,e⟩,_⟩ := x; exact ⟨_,e⟩
structure Big (B : Heap) (fs : List Addr) (H' : Hp) (h : Heap) : Prop where
  tr : ∀ b o,H' b = some o → ∃ ob,B.get? b = some ob
  old : ∀ b o,h.get? b = some o → b ∉ fs → ∃ ob,B.get? b = some ob
section
variable {P : Program} {w : World} {fs fs' : List Addr} {H H1 H' : Hp} {h h1 h2 B : Heap}
theorem Un.fly (un : Un fs [] H H' h h1) (big : Big B fs H' h) (st1 : B.StaysIn h1) (st2 : B.StaysIn h2) (sl : h1.UpToSlots h2)
    (fr : ∀ b ∈ fs,H b = none ∧ ∀ o,h1.get? b = some o → ∀ vs,o.data ≠ .fields vs) : Un fs [] H H' h h2 where
  keep := fun b o e n hb hx => by
    have e1 := un.keep b o e n hb hx
    obtain ⟨ob,eb⟩ := big.old b o e hb
    have e2 := st1 b ob eb
    rw [e1] at e2
    cases e2
    exact st2 b _ eb
  slot := fun b o e n hb hx => by
    obtain ⟨s1,e1⟩ := un.slot b o e n hb hx
    obtain ⟨s2,e2⟩ := sl b _ e1 ((fr b hb).2 _ e1)
    exact ⟨s2,e2⟩
  free := un.free
  there := fun b o e hx => by
    by_cases hb : b ∈ fs
    · obtain ⟨s1,e1⟩ := un.slot b o e (fr b hb).1 hb hx
      obtain ⟨s2,e2⟩ := sl b _ e1 ((fr b hb).2 _ e1)
      exact ⟨_,e2⟩
    · obtain ⟨ob,eb⟩ := big.old b o e hb
      exact ⟨_,st2 b ob eb⟩
  tups := un.tups
  frzs := un.frzs
  tbls := un.tbls
theorem HOk.fly (hok : HOk P w H' h1) (big : Big B fs H' h) (st1 : B.StaysIn h1) (st2 : B.StaysIn h2) : HOk P w H' h2 := fun a o e => by
  refine (hok a o e).stay (fun b u hb q => ?_) (fun _ q => q) fun _ _ q => q
  have hb' : ∃ ob,B.get? b = some ob := by
    rcases hb with z | z
    · rw [z]
      exact big.tr a o e
    · exact big.tr b _ z
  obtain ⟨ob,eb⟩ := hb'
  have e2 := st1 b ob eb
  rw [q] at e2
  cases e2
  exact st2 b _ eb
theorem Un.shed (a : Un fs [] H H1 h h1) (b : Un fs' [] H1 H' h1 h2) (sub : ∀ x ∈ fs,x ∈ fs') (out : ∀ x o,h.get? x = some o → x ∈ fs' → x ∈ fs) : Un fs [] H H' h h2 where
  keep := fun x o e n hx hn => b.keep x o (a.keep x o e n hx hn) (a.free x o e n hn) (fun z => hx (out x o e z)) hn
  slot := fun x o e n hx hn => by
    obtain ⟨s1,e1⟩ := a.slot x o e n hx hn
    obtain ⟨s2,e2⟩ := b.slot x _ e1 (a.free x o e n hn) (sub x hx) hn
    exact ⟨s2,e2⟩
  free := fun x o e n hn => by
    obtain ⟨o1,e1⟩ := a.there x o e hn
    exact b.free x o1 e1 (a.free x o e n hn) hn
  there := fun x o e hn => by
    obtain ⟨o1,e1⟩ := a.there x o e hn
    exact b.there x o1 e1 hn
  tups := fun x xs e => b.tups x xs (a.tups x xs e)
  frzs := fun x o xs e => b.frzs x o xs (a.frzs x o xs e)
  tbls := fun x ps e => by
    obtain ⟨m1,e1⟩ := a.tbls x ps e
    obtain ⟨m2,e2⟩ := b.tbls x _ e1
    exact ⟨m1 ++ m2,by rw [e2,Array.append_assoc]⟩
end
def CXE (P : Program) (w : World) : CXT := fun outer H s E e s' => ∃ (ea t : Addr) (cls : Value) (H' : Hp) (B : Heap),
  e = .ref ea ∧ s'.os = s.os ∧ AllBare s'.gens ∧ Un (frs outer) [] H H' s.heap s'.heap ∧ HOk P w H' s'.heap ∧ Heap.FlyingW B outer ea cls (.ref t) s'.heap ∧ Big B (frs outer) H' s.heap ∧ E cls none H'
section
variable {P : Program} {w : World} {K : PySem.W.Frag} {mg : Str → Option Value} {base : Heap} {N : List Str} {qual : Str} {scope : Scope} {f : Addr} {cdv : Value} {A : Around} {outer : List Env} {s₀ : Shared} {H₀ : Hp} {E : XK}
theorem frs_cons {env : Env} {L : Addr} (hf : env.frame = some L) (l : List Env) : frs (env :: l) = L :: frs l := by
  unfold frs
  rw [List.filterMap_cons,hf]
theorem raised {pins : List (Addr × Obj)} {σ : St} {H : Hp} {s : Shared} {h' : Heap} {e : Addr} {cls : Value} {vs : List Value} (I : Inv (cxOf (CXE P w) P w K mg base N qual scope f cdv A outer s₀ H₀ E) pins σ H s)
    (hx : Heap.MadeExcOf s.heap h' e cls vs) (q : E cls none H) : (cxOf (CXE P w) P w K mg base N qual scope f cdv A outer s₀ H₀ E).xe (.ref e) { s with heap := h' } := by
  have hin : ∀ env ∈ (cxOf (CXE P w) P w K mg base N qual scope f cdv A outer s₀ H₀ E).stack,∀ a,env.frame = some a → a ∈ frs (cxOf (CXE P w) P w K mg base N qual scope f cdv A outer s₀ H₀ E).stack :=
    fun env he a ha => List.mem_filterMap.mpr ⟨env,he,ha⟩
  have neL : ∀ b o,s₀.heap.get? b = some o → b ∉ frs outer → b ∉ frs (cxOf (CXE P w) P w K mg base N qual scope f cdv A outer s₀ H₀ E).stack := fun b o eb hb hm => by
    rcases List.mem_cons.mp (I.stkSub b hm) with z | z
    · exact absurd z (Nat.ne_of_lt (Nat.lt_of_lt_of_le (Heap.lt_size eb) I.ok.above))
    · exact hb z
  refine wpAny_leaves_madeW (base := PySem.W.hideAll s.heap (frs (cxOf (CXE P w) P w K mg base N qual scope f cdv A outer s₀ H₀ E).stack)) (h := s.heap) (L := s₀.heap.objs.size) I.ok.frames rfl (fun b o z => PySem.W.of_hideAll _ z) (PySem.W.funFrames_hide I.stack hin) hx fun h'' t fl _ _ up => ?_
  have big : Big (PySem.W.hideAll s.heap (frs (cxOf (CXE P w) P w K mg base N qual scope f cdv A outer s₀ H₀ E).stack)) (frs outer) H s₀.heap := by
    refine ⟨fun b o eb => ?_,fun b o eb hb => ?_⟩
    · obtain ⟨ob,z⟩ := (I.hok b o eb).has
      refine ⟨ob,PySem.W.hideAll_get _ z fun hm => ?_⟩
      rw [I.stkFree b hm] at eb
      cases eb
    · obtain ⟨ob,z⟩ := I.base.there b o eb (by intro z; cases z)
      exact ⟨ob,PySem.W.hideAll_get _ z (neL b o eb hb)⟩
  have st1 : (PySem.W.hideAll s.heap (frs (cxOf (CXE P w) P w K mg base N qual scope f cdv A outer s₀ H₀ E).stack)).StaysIn s.heap := fun b o z => PySem.W.of_hideAll _ z
  have sl : s.heap.UpToSlots h'' := (Heap.UpToSlots.of_keeps hx.keeps).trans up
  exact ⟨e,t,cls,H,_,rfl,I.os,I.bare,Un.fly I.base big st1 fl.1 sl fun b hb => ⟨I.ok.frf b hb,fun o eo => by
      obtain ⟨_,o',eo',nf⟩ := I.funs.mem hb
      rw [eo] at eo'
      cases eo'
      exact nf⟩,HOk.fly I.hok big st1 fl.1,fl,big,q⟩
theorem pass_on {E1 : XK} (hE : ∀ c o H',E1 c o H' → E c o H') : Passes (CXE P w) (cxOf (CXE P w) P w K mg base N qual scope f cdv A outer s₀ H₀ E) E1 := by
  intro pins σ H s e s' I h
  obtain ⟨ea,t,cls,H',B,rfl,os,bare,un,hok,fl,big,q⟩ := h
  refine wpAny_leaves_onW (L := s₀.heap.objs.size) I.ok.frames rfl fl fun h'' fl' up => ?_
  have out : ∀ x o,s₀.heap.get? x = some o → x ∈ frs (cxOf (CXE P w) P w K mg base N qual scope f cdv A outer s₀ H₀ E).stack → x ∈ frs outer := fun x o ex hm => by
    rcases List.mem_cons.mp (I.stkSub x hm) with z | z
    · exact absurd z (Nat.ne_of_lt (Nat.lt_of_lt_of_le (Heap.lt_size ex) I.ok.above))
    · exact z
  have sub : ∀ x ∈ frs outer,x ∈ frs (cxOf (CXE P w) P w K mg base N qual scope f cdv A outer s₀ H₀ E).stack := fun x hx => by
    show x ∈ frs (_ :: outer)
    rw [frs_cons (L := s₀.heap.objs.size) rfl]
    exact List.mem_cons_of_mem _ hx
  have un1 : Un (frs outer) [] H₀ H' s₀.heap s'.heap := Un.shed I.base un sub out
  have big1 : Big B (frs outer) H' s₀.heap := by
    refine ⟨big.tr,fun b o eb hb => ?_⟩
    obtain ⟨ob,z⟩ := I.base.there b o eb (by intro z; cases z)
    exact big.old b ob z fun hm => hb (out b o eb hm)
  refine ⟨ea,t,cls,H',B,rfl,os.trans I.os,bare,Un.fly un1 big1 fl.1 fl'.1 up fun b hb => ⟨I.ok.frf b hb,fun o eo => ?_⟩,HOk.fly hok big1 fl.1 fl'.1,fl',big1,hE _ _ _ q⟩
  obtain ⟨_,o',eo',nf⟩ := fl'.2.2.1.mem hb
  obtain ⟨_,o2,eo2,nf2⟩ := fl.2.2.1.mem (sub b hb)
  rw [eo] at eo2
  cases eo2
  exact nf2
end
structure ExcC (K : PySem.W.Frag) (mg : Str → Option Value) (x : Str) (C : Addr) : Prop where
  bound : mg x = some (.ref C)
  obj : ∀ h : Heap,K.In h → ∃ bm N nm qn bs hd sn sub ab col dd k0 k1 k2 k3 k5 mN,h.get? C = some (excClassObj nm qn C N bs bm hd sn sub ab col dd k0 k1 k2 k3 k5 "ValueError.__new__") ∧ h.Ns N mN ∧ mN "__init__" = none ∧
    OwnTail h [.type "ValueError",.type "Exception",.type "BaseException",.type "object"] bm
theorem exc_obj {K : PySem.W.Frag} {h : Heap} {C : Addr} {bmB : List Value} {newId : String} (X : K.In h) (q : PySem.W.excIn K C bmB newId = true) :
    ∃ bm N nm qn bs hd sn sub ab col dd k0 k1 k2 k3 k5 mN,h.get? C = some (excClassObj nm qn C N bs bm hd sn sub ab col dd k0 k1 k2 k3 k5 newId) ∧ h.Ns N mN ∧ mN "__init__" = none ∧ OwnTail h bmB bm := by
  unfold PySem.W.excIn at q
  split at q
  next dct cl sls look =>
    split at q
    next C2 bms a0 a1 a2 a3 nid a5 hmro hsls =>
      simp only [Bool.not_eq_true',beq_iff_eq,Bool.and_eq_true] at q
      obtain ⟨⟨⟨⟨⟨q1,q2⟩,q3⟩,q4⟩,q5⟩,q6⟩ := q
      subst q1 q2
      obtain ⟨c1,c2,c3,c4,c5,c6,c7,c8,c9,c10,c11⟩ := cl
      dsimp only at hmro q3 q5 q6
      subst hmro q3
      obtain ⟨lst⟩ := sls
      simp only at hsls
      subst hsls
      exact ⟨bms,c4,c1,c5,c2,c6,c7,c8,c9,c10,dct,a0,a1,a2,a3,a5,_,X _ _ look,.of_isNs (PySem.W.isNs_of_in X q5),PySem.W.nsMap_none_of_in X q5 q6,PySem.W.tail_of_in X q4⟩
    next => cases q
  next => cases q
theorem exc_mk {K : PySem.W.Frag} {mg : Str → Option Value} {h : Heap} {x : Str} {C : Addr} (X : K.In h) (G : h.Ns mainGlobals mg) (a : PySem.W.nsIn K mainGlobals x = some (some (.ref C)))
    (q : PySem.W.excIn K C [.type "ValueError",.type "Exception",.type "BaseException",.type "object"] "ValueError.__new__" = true) : ExcC K mg x C := ⟨PySem.W.mg_of X G a,fun _ Y => exc_obj Y q⟩
section
variable {P : Program} {w : World} {K : PySem.W.Frag} {mg : Str → Option Value} {base : Heap} {N : List Str} {qual : Str} {scope : Scope} {f : Addr} {cdv : Value} {A : Around} {outer : List Env} {s₀ : Shared} {H₀ : Hp} {E : XK}
theorem ps_raise {x : Str} {C : Addr} {np cpos pos : Pos} (O : ExcC K mg x C) (hg : Gl (cxOf (CXE P w) P w K mg base N qual scope f cdv A outer s₀ H₀ E) x) (hdb : (x == ("__debug__" : Str)) = false := by decide) :
    PS (cxOf (CXE P w) P w K mg base N qual scope f cdv A outer s₀ H₀ E) (.Raise (some (.Call (.Name x np) [] [] cpos)) none pos) (fun _ _ H => E (.ref C) none H) := by
  intro pins s σ H D I h
  obtain ⟨bm,N',nm,qn,bs,hd,sn,sub,ab,col,dd,k0,k1,k2,k3,k5,mN,hC,hN,hni,T⟩ := O.obj s.heap I.kIn
  refine wpAny_Raise_call_subT (C := C) (nm := nm) (q := qn) (N := N') (bs := bs) (bm := bm) (hdct := hd) (sn := sn) (sub := sub) (ab := ab) (col := col) (dd := dd) (k0 := k0) (k1 := k1) (k2 := k2) (k3 := k3) (k5 := k5) PySem.F.excBase_ValueError (mN := mN) (T.hasType (by decide +kernel)) (I.ok.hd rfl) rfl hni (ld_glob I hg O.bound ⟨rfl,?_⟩ hdb)
  exact evalArgs_empty ⟨rfl,Nat.zero_le _,hC,hN,T,fun h' e hx => raised I hx h⟩
end
section
variable {X : Cx}
end
structure Fx (P : Program) (w : World) (K : PySem.W.Frag) (mg : Str → Option Value) (base : Heap) (x : Str) (ps : List Str) (k : Nat) (ds : List V) (sp : Sp) : Prop where
  ex : ∃ (f : Addr) (fd : FuncData) (its : List Value),mg x = some (.ref f) ∧ PySem.W.keepIn K (.ref f) = true ∧ Binds K fd ps [] ∧ Binds K fd ps its ∧ Vals ds its ∧ FnOk P w K mg base (CXE P w) k f fd ps sp
structure DfD (K : PySem.W.Frag) (mg : Str → Option Value) (x : Str) (st : Stmt) (ds : List V) : Prop where
  ex : ∃ (f T : Addr) (oT : Obj) (n : Nat) (its : List Value) (oc : Value) (od : Option Addr) (kV doc pm : Value) (an : Option Addr) (cdv ct : Value) (osl : Array (Option Value)),
    mg x = some (.ref f) ∧ K.lookup f = some ⟨oc,od,.func (PySem.W.fnOf x x (defArgs st) (defBody st) (defScope st) (.ref T) kV doc pm an cdv ct),osl⟩ ∧ PySem.W.codeIn K cdv x = true ∧ PySem.W.keepIn K (.ref f) = true ∧ K.lookup T = some oT ∧ oT.data = .seq its.toArray n ∧ Vals ds its
theorem dfd_mk {K : PySem.W.Frag} {mg : Str → Option Value} {h : Heap} {x : Str} {st : Stmt} {ds : List V} {its : List Value} {f T : Addr} {oT : Obj} {n : Nat} {oc : Value} {od an : Option Addr} {osl : Array (Option Value)} {kV doc pm cdv ct : Value} (X : K.In h) (G : h.Ns mainGlobals mg)
    (a : PySem.W.nsIn K mainGlobals x = some (some (.ref f))) (l : K.lookup f = some ⟨oc,od,.func (PySem.W.fnOf x x (defArgs st) (defBody st) (defScope st) (.ref T) kV doc pm an cdv ct),osl⟩) (c : PySem.W.codeIn K cdv x = true) (k : PySem.W.keepIn K (.ref f) = true)
    (t : K.lookup T = some oT) (d : oT.data = .seq its.toArray n) (v : Vals ds its) : DfD K mg x st ds := ⟨⟨f,T,oT,n,its,oc,od,kV,doc,pm,an,cdv,ct,osl,PySem.W.mg_of X G a,l,c,k,t,d,v⟩⟩
theorem DfD.fx {P : Program} {w : World} {K : PySem.W.Frag} {mg : Str → Option Value} {base : Heap} {x : Str} {st : Stmt} {ds : List V} {N ps : List Str} {k : Nat} {sp : Sp} (D : DfD K mg x st ds) (S : FnScope N ps (defScope st))
    (hb : ∀ (T : Addr) (kV doc pm : Value) (an : Option Addr) (cdv ct : Value) (us its : List Value) (oT : Obj) (n : Nat) (s : Shared),Vals ds its → us.length = ps.length → s.heap.get? T = some oT → oT.data = .seq its.toArray n →
      BindsTo s (PySem.W.fnOf x x (defArgs st) (defBody st) (defScope st) (.ref T) kV doc pm an cdv ct) ⟨us,[]⟩ (ps.zip us))
    (hd : ∀ (T : Addr) (kV doc pm : Value) (an : Option Addr) (cdv ct : Value) (us its : List Value) (oT : Obj) (n : Nat) (s : Shared),Vals ds its → (us ++ its).length = ps.length → s.heap.get? T = some oT → oT.data = .seq its.toArray n →
      BindsTo s (PySem.W.fnOf x x (defArgs st) (defBody st) (defScope st) (.ref T) kV doc pm an cdv ct) ⟨us,[]⟩ (ps.zip (us ++ its)))
    (len : ∀ vs H Q E,sp vs H Q E → vs.length = ps.length)
    (hbody : ∀ (f : Addr) (cdv : Value) (A : Around) (outer : List Env) (s : Shared) (H : Hp) (vs : List V) (Q : VK) (E : XK),Room k (A.deeper (envOfC x (defScope st) s.heap.objs.size f cdv)) → sp vs H Q E →
      ∃ t,PSs (cxOf (CXE P w) P w K mg base N x (defScope st) f cdv A outer s H E) (defBody st) t ∧ t { nx := fun _ H' => Q .non H',rt := Q } (start N vs) H) : Fx P w K mg base x ps (k + 1) ds sp := by
  obtain ⟨f,T,oT,n,its,oc,od,kV,doc,pm,an,cdv,ct,osl,hm,lk,hcd,hk,hT,hs,hv⟩ := D.ex
  refine ⟨⟨f,_,its,hm,hk,fun s us KX hl => ?_,fun s us KX hl => hd T kV doc pm an cdv ct us its oT n s hv hl (KX _ _ hT) hs,hv,fn_of lk hcd S len fun A outer s H vs Q E hr hsp => hbody f cdv A outer s H vs Q E hr hsp⟩⟩
  rw [List.append_nil] at hl ⊢
  exact hb T kV doc pm an cdv ct us its oT n s hv hl (KX _ _ hT) hs
theorem Df.fx {P : Program} {w : World} {K : PySem.W.Frag} {mg : Str → Option Value} {base : Heap} {x : Str} {st : Stmt} {N ps : List Str} {k : Nat} {sp : Sp} (D : Df K mg x st) (S : FnScope N ps (defScope st))
    (hbind : ∀ (kV doc pm : Value) (an : Option Addr) (cdv ct : Value) (us : List Value),us.length = ps.length → bindArgs (PySem.W.fnOf x x (defArgs st) (defBody st) (defScope st) .none kV doc pm an cdv ct) ⟨us,[]⟩ = pure (ps.zip us))
    (len : ∀ vs H Q E,sp vs H Q E → vs.length = ps.length)
    (hbody : ∀ (f : Addr) (cdv : Value) (A : Around) (outer : List Env) (s : Shared) (H : Hp) (vs : List V) (Q : VK) (E : XK),Room k (A.deeper (envOfC x (defScope st) s.heap.objs.size f cdv)) → sp vs H Q E →
      ∃ t,PSs (cxOf (CXE P w) P w K mg base N x (defScope st) f cdv A outer s H E) (defBody st) t ∧ t { nx := fun _ H' => Q .non H',rt := Q } (start N vs) H) : Fx P w K mg base x ps (k + 1) [] sp := by
  obtain ⟨f,oc,od,kV,doc,pm,an,cdv,ct,osl,hm,lk,hcd,hk⟩ := D.ex
  have hb : Binds K (PySem.W.fnOf x x (defArgs st) (defBody st) (defScope st) .none kV doc pm an cdv ct) ps [] := .all (hbind kV doc pm an cdv ct)
  exact ⟨⟨f,_,[],hm,hk,hb,hb,.nil,fn_of lk hcd S len fun A outer s H vs Q E hr hsp => hbody f cdv A outer s H vs Q E hr hsp⟩⟩
theorem pe_fx {P : Program} {w : World} {K : PySem.W.Frag} {mg : Str → Option Value} {base : Heap} {N : List Str} {qual : Str} {scope : Scope} {f : Addr} {cdv : Value} {A : Around} {outer : List Env} {s₀ : Shared} {H₀ : Hp} {E : XK}
    {x : Str} {ps : List Str} {k : Nat} {ds : List V} {sp : Sp} {p pos : Pos} {e : Expr} {es : List Expr} {t : TA} (F : Fx P w K mg base x ps k ds sp) (hr : Room k (cxOf (CXE P w) P w K mg base N qual scope f cdv A outer s₀ H₀ E).A) (hg : Gl (cxOf (CXE P w) P w K mg base N qual scope f cdv A outer s₀ H₀ E) x)
    (ha : PA (cxOf (CXE P w) P w K mg base N qual scope f cdv A outer s₀ H₀ E) (e :: es) t)
    (hdb : (x == ("__debug__" : Str)) = false := by decide) (he : starEach (e :: es) (cxOf (CXE P w) P w K mg base N qual scope f cdv A outer s₀ H₀ E).env = (false,eval e (cxOf (CXE P w) P w K mg base N qual scope f cdv A outer s₀ H₀ E).env) :: starEach es (cxOf (CXE P w) P w K mg base N qual scope f cdv A outer s₀ H₀ E).env := by rfl)
    (hpl : (backTo pos (starEach es (cxOf (CXE P w) P w K mg base N qual scope f cdv A outer s₀ H₀ E).env)).any (·.1) = false := by rfl) :
    PE (cxOf (CXE P w) P w K mg base N qual scope f cdv A outer s₀ H₀ E) (.Call (.Name x p) (e :: es) [] pos) (tCall sp [] E t) := by
  obtain ⟨g,fd,its,hm,hk,hb,_,_,G⟩ := F.ex
  exact pe_call G hr hg hm hk hb .nil (pass_on fun _ _ _ z => z) ha hdb he hpl
theorem pass_none {P : Program} {w : World} {X : Cx} : Passes (CXE P w) X E0 := fun _ _ _ _ _ _ _ h => by
  obtain ⟨_,_,_,_,_,_,_,_,_,_,_,_,q⟩ := h
  exact q.elim
theorem pe_fx0 {X : Cx} {x : Str} {ps : List Str} {k : Nat} {ds : List V} {sp : Sp} {p pos : Pos} {e : Expr} {es : List Expr} {t : TA} (F : Fx X.prog X.w X.K X.mg X.base x ps k ds sp) (hr : Room k X.A) (hg : Gl X x) (ha : PA X (e :: es) t)
    (hdb : (x == ("__debug__" : Str)) = false := by decide) (he : starEach (e :: es) X.env = (false,eval e X.env) :: starEach es X.env := by rfl) (hpl : (backTo pos (starEach es X.env)).any (·.1) = false := by rfl) :
    PE X (.Call (.Name x p) (e :: es) [] pos) (tCall sp [] E0 t) := by
  obtain ⟨g,fd,its,hm,hk,hb,_,_,G⟩ := F.ex
  exact pe_call G hr hg hm hk hb .nil pass_none ha hdb he hpl
section
variable {X : Cx}
variable {x fn : Str} {i : Nat} {ps : List Str} {k : Nat} {ds : List V} {sp : Sp} {e : Expr} {es : List Expr} {ta : TA} {px pf cpos pos : Pos}
end
end L2
namespace Sp2
open PySem PySem.Spec L2 Mth Sp1
def placeL (n : Int) : List V → Bool
  | [.int a,.int b] => lowB a b && (decide (0 ≤ a) && decide (a ≤ n * b))
  | _ => false
def placeV (n : Int) (H : Hp) : V → Bool
  | .ref p => match H p with
    | some (.tup xs) => placeL n xs
    | _ => false
  | _ => false
theorem lowV_inv {H : Hp} {x : V} (h : lowV H x = true) : ∃ p a b,x = .ref p ∧ H p = some (.tup [.int a,.int b]) ∧ Low a b := by
  unfold lowV at h
  split at h
  · split at h
    · rename_i p _ xs e
      unfold lowL at h
      split at h
      · rename_i a b
        unfold lowB at h
        rw [Bool.and_eq_true,decide_eq_true_eq,decide_eq_true_eq] at h
        exact ⟨p,a,b,rfl,e,h.1,h.2⟩
      · cases h
    · cases h
  · cases h
theorem placeV_tup {n : Int} {H : Hp} {p : Addr} {a b : Int} (e : H p = some (.tup [.int a,.int b])) : placeV n H (.ref p) = (lowB a b && (decide (0 ≤ a) && decide (a ≤ n * b))) := by
  simp only [placeV,e,placeL]
theorem lowV_two {H : Hp} {p : Addr} {a b : Int} (e : H p = some (.tup [.int a,.int b])) : lowV H (.ref p) = lowB a b := by
  simp only [lowV,e,lowL]
theorem placeV_low {n : Int} {H : Hp} {x : V} (h : lowV H x = false) : placeV n H x = false := by
  unfold placeV
  split
  · split
    · rename_i p _ xs e
      unfold placeL
      split
      · rename_i a b
        rw [lowV_two e] at h
        rw [h,Bool.false_and]
      · rfl
    · rfl
  · rfl
theorem low_B {a b : Int} (h : Low a b) : lowB a b = true := by
  unfold lowB
  rw [decide_eq_true h.pos,decide_eq_true h.one]
  rfl
theorem placeV_of {n : Int} {H : Hp} {p : Addr} {a b : Int} (e : H p = some (.tup [.int a,.int b])) (h : Low a b) (h0 : 0 ≤ a) (h1 : a ≤ n * b) : placeV n H (.ref p) = true := by
  rw [placeV_tup e,low_B h,decide_eq_true h0,decide_eq_true h1]
  rfl
theorem placeV_inv {n : Int} {H : Hp} {x : V} (h : placeV n H x = true) : ∃ p a b,x = .ref p ∧ H p = some (.tup [.int a,.int b]) ∧ Low a b ∧ 0 ≤ a ∧ a ≤ n * b := by
  cases hl : lowV H x with
  | false =>
    rw [placeV_low hl] at h
    cases h
  | true =>
    obtain ⟨p,a,b,rfl,e,lw⟩ := lowV_inv hl
    rw [placeV_tup e,low_B lw,Bool.true_and,Bool.and_eq_true,decide_eq_true_eq,decide_eq_true_eq] at h
    exact ⟨p,a,b,rfl,e,lw,h.1,h.2⟩
def spLast : Sp := fun vs H Q _ => ∃ (p : Addr) (xs : List V),vs = [.ref p] ∧ H p = some (.lst xs) ∧ Q (.int ((xs.length : Int) - 1)) H
def spIsPlace : Sp := fun vs H Q _ => ∃ (p : Addr) (xs : List V) (x : V),vs = [.ref p,x] ∧ H p = some (.lst xs) ∧ xs.length ≤ 100 ∧ Thing H x ∧ Q (.bl (placeV ((xs.length : Int) - 1) H x)) H
def spLook (C : Addr) : Sp := fun vs H Q E => ∃ (p : Addr) (xs : List V) (x : V),vs = [.ref p,x] ∧ H p = some (.lst xs) ∧ xs.length ≤ 100 ∧ Thing H x ∧ (placeV ((xs.length : Int) - 1) H x = false → E (.ref C) none H) ∧ (placeV ((xs.length : Int) - 1) H x = true → Q .non H)
structure LineAt (H : Hp) (l : Addr) (qs : List (Addr × Int × Int)) : Prop where
  lst : H l = some (.lst (qs.map fun q => V.ref q.1))
  crn : ∀ q ∈ qs,H q.1 = some (.tup [.int q.2.1,.int q.2.2]) ∧ bits q.2.1 ≤ 50 ∧ bits q.2.2 ≤ 50
theorem LineAt.mono {H H' : Hp} {l : Addr} {qs : List (Addr × Int × Int)} (L : LineAt H l qs) (s : Same H H') : LineAt H' l qs := ⟨s _ _ L.lst,fun q h => ⟨s _ _ (L.crn q h).1,(L.crn q h).2⟩⟩
theorem lt64s {n : Int} (h0 : -1000 ≤ n) (h1 : n ≤ 1000) : -(2 ^ 64) < n ∧ n < 2 ^ 64 := by
  have e : (2 : Int) ^ 64 = 18446744073709551616 := by decide
  rw [e]
  omega
theorem at_int {ns : List Int} {k : Int} (j : Nat) (e : k = (j : Int)) (h : j < ns.length) : atI (ns.map V.int) k = some (.int ns[j]) := by
  subst e
  exact atI_nat (by rw [List.getElem?_map,List.getElem?_eq_getElem h]; rfl)
theorem bits_small {n : Int} (h0 : -1000 ≤ n) (h1 : n ≤ 1000) : bits n ≤ 10 := by
  refine bits_of (n := 10) ?_
  show _ < 1024
  omega
theorem fl_ge {a b k : Int} (hb : 0 < b) (h : k * b ≤ a) : k ≤ a / b := (Int.le_ediv_iff_mul_le hb).mpr h
theorem fl_nn {a b : Int} (hb : 0 < b) (h : 0 ≤ a) : 0 ≤ a / b := Int.ediv_nonneg h (by omega)
end Sp2
namespace L2
open PySem PySem.Spec PyProof.Rows
end L2
namespace L2
open PySem PySem.Spec PyProof.Rows
abbrev Cx.blk (X : Cx) (N' : List Str) (scope : Scope) (cl : List (Str × Addr)) (fp : List Addr) (s₀ : Shared) (H₀ : Hp) : Cx :=
  { X with N := N',s₀ := s₀,H₀ := H₀,env := compEnvC scope cl s₀.heap.objs.size X.env,outer := X.stack,ex := fp,fn := fun _ => false,pn := [],xe := fun _ _ => False }
theorem lookup_mem {α : Type} {y : Str} {c : α} : ∀ {l : List (Str × α)},l.lookup y = some c → (y,c) ∈ l
  | [],h => by simp at h
  | (n,d) :: r,h => by
    rw [List.lookup_cons] at h
    cases e : y == n with
    | true =>
      rw [e] at h
      cases h
      rw [beq_iff_eq.mp e]
      exact List.mem_cons_self
    | false =>
      rw [e] at h
      exact List.mem_cons_of_mem _ (lookup_mem h)
structure CompN (X : Cx) (scope : Scope) (cl : List (Str × Addr)) (x : Str) (fv : List (Str × Nat)) : Prop where
  clos : closureFor scope X.env = pure cl
  kind : scope.kind = .function
  cell : ∀ y ∈ scope.names,y.2 ≠ .cell
  names : ∀ y ∈ scope.names,y.2 = .local → scope.names.lookup y.1 = some .local
  own : scope.names.lookup x = some .local
  cells : ∀ p ∈ cl,X.env.cells.lookup p.1 = some p.2
  has : ((relabel scope X.env).names.all fun q => !(q.2 == .cell || q.2 == .free) || (cl.lookup q.1).isSome) = true
  nd : (x :: fv.map (·.1)).Nodup
  slot : ∀ p ∈ fv,X.N[p.2]? = some p.1 ∧ X.env.kindOf p.1 = some .cell ∧ Vis X.env.scope p.1 ∧ (cl.lookup p.1).isSome = true ∧ ((relabel scope X.env).names.lookup p.1 = some .cell)
  stk : X.stack = X.env :: X.outer ∧ X.env.frame = some X.env.locals
  noex : X.ex = []
def fvs (fv : List (Str × Nat)) (σ : St) : St := fv.map fun p => (σ[p.2]?).join
def tComp (wi : TI) (fv : List (Str × Nat)) (te : TE) : TE := fun σ H Q => wi σ H fun J H1 => ∀ p,H1 p = none → ∃ W : Nat → Nat → List V → Hp → Prop,(∃ m,W 0 m [] (upd H1 p (.lst []))) ∧ ∀ i m acc H2,W i m acc H2 →
  H2 p = some (.lst acc) ∧ acc.length < sizeLine ∧ ((J.stop i H2 ∧ Q (.ref p) H2) ∨ (J.go i H2 ∧ ∀ x H3,J.yld i H2 x H3 → te (some x :: fvs fv σ) H3 fun y H4 => H4 p = some (.lst acc) ∧ ∃ m',m' < m ∧ W (i + 1) m' (acc ++ [y]) (upd H4 p (.lst (acc ++ [y])))))
section
variable {X : Cx} {scope : Scope} {cl : List (Str × Addr)} {x : Str} {fv : List (Str × Nat)} {elt iter : Expr} {px pos : Pos} {te : TE}
theorem blk_ok {pins : List (Addr × Obj)} {σ : St} {H : Hp} {s : Shared} {fp : List Addr} (C : CompN X scope cl x fv) (I : Inv X pins σ H s) (hf : ∀ b ∈ fp,FpOk X pins H b) (ho : ∀ b ∈ fp,b < s.heap.objs.size) : (X.blk (x :: fv.map (·.1)) scope cl fp s H).Ok := by
  have hcl : ∀ y c,cl.lookup y = some c → X.env.cells.lookup y = some c := fun y c h => C.cells _ (lookup_mem h)
  have old : ∀ b ∈ fp,X.s₀.heap.objs.size ≤ b := fun b hb => by
    rcases (hf b hb).2.2.2.1 with z | z
    · rw [C.noex] at z
      cases z
    · exact z
  refine ⟨I.ok.mod,by show (relabel scope X.env).kind = _; exact C.kind,I.ok.glob,I.ok.blt,Nat.le_refl _,fun y z c h1 h2 => I.ok.inj y z c (hcl y c h1) (hcl z c h2),fun y hy => ?_,(fun y c h => by cases h),I.ok.hd,I.ok.frames,.inl rfl,fun b hb => ?_,fun b o e => I.bs b o e,Nat.le_trans I.ok.bsz I.sz,fun b o e hb => ?_,fun b hb hm => ?_,I.stack,I.stkFree⟩
  · have q := C.has
    rw [List.all_eq_true] at q
    have hm : ∃ k,(y,k) ∈ (relabel scope X.env).names ∧ (k = .cell ∨ k = .free) := by
      rcases hy with hy | hy
      · exact ⟨_,lookup_mem hy,.inl rfl⟩
      · exact ⟨_,lookup_mem hy,.inr rfl⟩
    obtain ⟨k,hk,hk2⟩ := hm
    have q2 := q _ hk
    have q3 : (cl.lookup y).isSome = true := by
      rcases hk2 with rfl | rfl
      · simpa using q2
      · simpa using q2
    exact Option.isSome_iff_exists.mp q3
  · obtain ⟨f0,f1,f2,f3,f4,f5⟩ := hf b hb
    refine ⟨?_,fun y c h => f4 y c (hcl y c h)⟩
    exact Nat.ne_of_lt (ho b hb)
  · have z := Heap.lt_size e
    have z2 := old b hb
    exact absurd (Nat.lt_of_lt_of_le z (Nat.le_trans I.ok.bsz z2)) (Nat.lt_irrefl _)
  · obtain ⟨f0,f1,f2,f3,f4,f5⟩ := hf b hb
    rcases List.mem_cons.mp (I.stkSub b hm) with z | z
    · exact f1 z
    · exact f2 z
theorem blk_inv {pins : List (Addr × Obj)} {σ : St} {H : Hp} {s s4 : Shared} {fp : List Addr} (C : CompN X scope cl x fv) (I : Inv X pins σ H s) (hf : ∀ b ∈ fp,FpOk X pins H b) (ho : ∀ b ∈ fp,b < s.heap.objs.size)
    (hs : s4.os = s.os ∧ s4.gens = s.gens) (ns : s4.heap.Ns s.heap.objs.size fun _ => none) (kp : ∀ b o,s.heap.get? b = some o → s4.heap.get? b = some o) :
    Inv (X.blk (x :: fv.map (·.1)) scope cl fp s H) [] (none :: fvs fv σ) H s4 := by
  have hcl : ∀ y c,cl.lookup y = some c → X.env.cells.lookup y = some c := fun y c h => C.cells _ (lookup_mem h)
  refine ⟨blk_ok C I hf ho,hs.1,by rw [hs.2]; exact I.bare,Un.kept kp,⟨_,ns,fun i y v e1 e2 e3 => ?_⟩,fun y c h => ?_,I.hok.fresh (Nat.le_refl _),fun y c h => I.freeC y c (hcl y c h),fun p hp => by simp at hp,I.hok.kept kp,by simp [fvs]⟩
  · cases i with
    | zero => simp at e2
    | succ j =>
      have e1' : (fv.map (·.1))[j]? = some y := by simpa using e1
      have e2' : (fvs fv σ)[j]? = some (some v) := by simpa using e2
      rw [List.getElem?_map] at e1'
      unfold fvs at e2'
      rw [List.getElem?_map] at e2'
      cases hq : fv[j]? with
      | none =>
        rw [hq] at e1'
        cases e1'
      | some q =>
        rw [hq] at e1' e2'
        have ey : q.1 = y := Option.some.inj e1'
        have ev : (σ[q.2]?).join = some v := Option.some.inj e2'
        have hm : q ∈ fv := List.mem_of_getElem? hq
        obtain ⟨s1,s2,s3,s4',s5⟩ := C.slot q hm
        have ev2 : σ[q.2]? = some (some v) := by
          cases hz : σ[q.2]? with
          | none =>
            rw [hz] at ev
            cases ev
          | some z =>
            rw [hz] at ev
            have ev' : z = some v := ev
            rw [ev']
        obtain ⟨m,hn,hl⟩ := I.loc
        obtain ⟨u,r,lk⟩ := hl q.2 q.1 v s1 ev2 s3
        obtain ⟨c,hc⟩ := Option.isSome_iff_exists.mp s4'
        refine ⟨u,r,.inr ⟨.inl (by rw [← ey]; exact s5),c,by rw [← ey]; exact hc,?_⟩⟩
        rcases lk with ⟨k,_⟩ | ⟨_,c',hc',z⟩
        · rw [s2] at k
          cases k
        · rw [hcl _ _ hc] at hc'
          cases hc'
          obtain ⟨o,ho',hd⟩ := z
          exact ⟨o,kp _ _ ho',hd⟩
  · obtain ⟨v,o,ho',hd⟩ := I.cell y c (hcl y c h)
    exact ⟨v,o,kp _ _ ho',hd⟩
theorem blk_run {pins : List (Addr × Obj)} {σ : St} {H2 : Hp} {s2 : Shared} {it : Addr} {fp : List Addr} {tn : Nat → Heap → Prop} {J : It} {RR : Value → Addr → Result → Shared → Prop} {E : Value → Shared → Prop} {Qf : V → Hp → Prop}
    (hcalm : X.calm = true) (C : CompN X scope cl x fv) (I2 : Inv X pins σ H2 s2) (T : Turn X.prog X.w X.K (.Name x px) J fp it tn) (st : tn 0 s2.heap) (f2 : ∀ b ∈ fp,FpOk X pins H2 b)
    (rd : ∀ p,H2 p = none → ∃ W : Nat → Nat → List V → Hp → Prop,(∃ m,W 0 m [] (upd H2 p (.lst []))) ∧ ∀ i m acc H2,W i m acc H2 →
      H2 p = some (.lst acc) ∧ acc.length < sizeLine ∧ ((J.stop i H2 ∧ Qf (.ref p) H2) ∨ (J.go i H2 ∧ ∀ x H3,J.yld i H2 x H3 → te (some x :: fvs fv σ) H3 fun y H4 => H4 p = some (.lst acc) ∧ ∃ m',m' < m ∧ W (i + 1) m' (acc ++ [y]) (upd H4 p (.lst (acc ++ [y]))))))
    (he : ∀ (s₀ : Shared) (H₀ : Hp),PE (X.blk (x :: fv.map (·.1)) scope cl fp s₀ H₀) elt te)
    (hRR : ∀ (p C : Addr) (H' : Hp) (s' : Shared),(∃ m,s'.heap.Ns C m) → C ≠ X.env.locals → H' C = none → X.s₀.heap.objs.size ≤ C → (∀ y c,X.env.cells.lookup y = some c → c ≠ C) → (∀ q ∈ X.pn ++ pins,q.1 ≠ C) → Inv X pins σ H' s' → Qf (.ref p) H' → RR (.ref p) C (.ok .next) s') :
    wpAny (model X.prog X.w) X.A (newList []) (fun acc s₃ => wpAny (model X.prog X.w) X.A (newFunctionEnv scope X.env.globals cl [] X.env.qual none .none (some X.env)) (fun cenv s₄ =>
      codeAny (model X.prog X.w) X.A (.compStart (.ListComp elt [⟨.Name x px,iter,[],0⟩] scope pos) 0 (.ref it) acc { cenv with scope := relabel scope X.env }) (RR acc cenv.locals) s₄) E s₃) E s2 := by
  refine wpAny_newObj_type ?_
  have hfresh := I2.fresh
  have I3 : Inv X pins σ (upd H2 s2.heap.objs.size (.lst [])) { s2 with heap := s2.heap.push { cls := .type "list",data := .seq ([] : List Value).toArray } } :=
    I2.laid (t' := s2.toks) (fun b u q => Heap.get?_push_of_some _ q) (Nat.le_refl _) ⟨Nat.zero_le _,[],0,.nil,Heap.get?_push_size _ rfl⟩
  generalize hs3 : ({ s2 with heap := s2.heap.push { cls := .type "list",data := .seq ([] : List Value).toArray } } : Shared) = s3 at I3 ⊢
  have hp3 : s2.heap.objs.size < s3.heap.objs.size := by rw [← hs3]; exact Nat.lt_of_lt_of_le (Nat.lt_succ_self _) (Nat.le_of_eq (Heap.size_push _ _).symm)
  have k23 : ∀ b o,s2.heap.get? b = some o → s3.heap.get? b = some o := fun b o e => by rw [← hs3]; exact Heap.get?_push_of_some _ e
  have fpo : ∀ b ∈ fp,b < s2.heap.objs.size := fun b hb => by
    obtain ⟨o,e,_⟩ := T.obj 0 _ st b hb
    exact Heap.lt_size e
  have f3 : ∀ b ∈ fp,FpOk X pins (upd H2 s2.heap.objs.size (.lst [])) b := fun b hb => ⟨by rw [upd_ne (Nat.ne_of_lt (fpo b hb))]; exact (f2 b hb).1,(f2 b hb).2⟩
  refine wpAny_newFunctionEnv C.cell (by intro y hy; simp at hy) (fun h1 hns1 hsb1 => ?_) C.kind
  have kp : ∀ b o,s3.heap.get? b = some o → h1.get? b = some o := fun b o e => (hsb1.2 b (Nat.ne_of_lt (Heap.lt_size e))).trans (Heap.get?_push_of_some _ e)
  have I4 := blk_inv (s4 := { s3 with heap := h1,toks := s3.toks + ([] : List (Str × Value)).length }) C I3 f3 (fun b hb => Nat.lt_trans (fpo b hb) hp3) ⟨rfl,rfl⟩ hns1 kp
  have st4 : tn 0 h1 := T.keep 0 _ _ st fun b _ o e => kp b o (k23 b o e)
  obtain ⟨W,⟨m0,w0⟩,step⟩ := rd _ hfresh
  have loop : codeAny (model X.prog X.w) X.A (.compLoop (.ListComp elt [⟨.Name x px,iter,[],0⟩] scope pos) 0 (.ref it) (.ref s2.heap.objs.size) (compEnvC scope cl s3.heap.objs.size X.env)) (RR (.ref s2.heap.objs.size) s3.heap.objs.size)
      { s3 with heap := h1,toks := s3.toks + ([] : List (Str × Value)).length } := by
    refine codeAny_compLoop_list (fun n s => ∃ i acc σv H',Inv (X.blk (x :: fv.map (·.1)) scope cl fp s3 (upd H2 s2.heap.objs.size (.lst []))) [] (σv :: fvs fv σ) H' s ∧ tn i s.heap ∧ (∀ b ∈ fp,H' b = none) ∧ W i n acc H') ?_ m0 ⟨0,[],none,_,I4,st4,fun b hb => (f3 b hb).1,w0⟩
    rintro n s ⟨i,acc,σv,H',I',st',fr',w'⟩
    obtain ⟨hp,hlen,alt⟩ := step i n acc H' w'
    have fpk : ∀ {H5 : Hp},(∀ b ∈ fp,H5 b = none) → ∀ b ∈ fp,FpOk (X.blk (x :: fv.map (·.1)) scope cl fp s3 (upd H2 s2.heap.objs.size (.lst []))) [] H5 b := fun h5 b hb =>
      ⟨h5 b hb,(I'.ok.exf b hb).1,I'.ok.exfs b hb,.inl hb,fun y c e => (I'.ok.exf b hb).2 y c e,fun q hq => by simp at hq⟩
    rcases alt with ⟨stop,qf⟩ | ⟨go,turn⟩
    · refine wpAny_mono (T.done (X.blk (x :: fv.map (·.1)) scope cl fp s3 (upd H2 s2.heap.objs.size (.lst []))) rfl rfl rfl hcalm i [] s _ H' (fun _ _ => False) I' (fpk fr') st' stop) (fun r s5 ⟨hr,I5⟩ => ?_) fun _ _ z => False.elim z
      subst hr
      refine hRR _ _ H' s5 (let ⟨m,hn,_⟩ := I5.loc; ⟨m,hn⟩) (Nat.ne_of_gt I3.lt) I5.free I3.sz (fun y c e => ?_) (fun q hq => ?_) ?_ qf
      · obtain ⟨v,z⟩ := I3.cell y c e
        exact Nat.ne_of_lt z.lt
      · exact Nat.ne_of_lt (Heap.lt_size (I3.pin q hq).1)
      · exact I3.call' (s' := s5) (ch := fp) I5.os I5.base I5.hok I5.bare fun b hb => ⟨(f2 b hb).2.2.2.1,(f2 b hb).2.1,(f2 b hb).2.2.2.2.1,(f2 b hb).2.2.2.2.2⟩
    · refine wpAny_mono (T.item (X.blk (x :: fv.map (·.1)) scope cl fp s3 (upd H2 s2.heap.objs.size (.lst []))) rfl rfl rfl hcalm i [] s _ H' (fun _ _ => False) I' (fpk fr') st' go) (fun r s5 ⟨u,hr,h5⟩ => ?_) fun _ _ z => False.elim z
      subst hr
      have e5 : assign (.Name x px) (compEnvC scope cl s3.heap.objs.size X.env) u = (letOwnedTupleGo (.Name x px) (.ref it) u >>= fun _ => assign (.Name x px) (compEnvC scope cl s3.heap.objs.size X.env) u) := by
        rw [show letOwnedTupleGo (.Name x px) (.ref it) u = pure () from rfl]
        rfl
      show wpAny _ _ (assign (.Name x px) (compEnvC scope cl s3.heap.objs.size X.env) u) _ _ _
      rw [e5]
      refine wpAny_bind (wpAny_mono h5 (fun _ s6 ⟨y,H6,I6,r6,y6,st6,fr6⟩ => ?_) fun _ _ z => False.elim z)
      have I6' := I6.pinned (fpk fr6) (T.obj _ _ st6)
      have lx : (relabel scope X.env).names.lookup x = some .local := lookup_relabel_local C.own
      refine wpAny_mono (pg_name (X := X.blk (x :: fv.map (·.1)) scope cl fp s3 (upd H2 s2.heap.objs.size (.lst []))) (i := 0) C.nd rfl (.inl lx) (.inr lx) _ s6 _ H6 y u (fun σ7 H7 => σ7 = some y :: fvs fv σ ∧ H7 = H6) I6' r6 ⟨rfl,rfl⟩) (fun _ s7 ⟨σ7,H7,I7,e7,e7'⟩ => ?_) fun _ _ z => False.elim z
      subst e7 e7'
      refine wpAny_mono (he s3 _ _ s7 _ _ _ I7 (turn y _ y6)) (fun v8 s8 ⟨y8,H8,I8,r8,q8,m',hm',w8⟩ => ?_) fun _ _ z => False.elim z
      refine wpAny_mono (mt_append (X := X.blk (x :: fv.map (·.1)) scope cl fp s3 (upd H2 s2.heap.objs.size (.lst []))) _ s8 _ H8 (.ref s2.heap.objs.size) [y8] (.ref s2.heap.objs.size) [v8] (fun _ H9 => H9 = upd H8 s2.heap.objs.size (.lst (acc ++ [y8]))) I8 rfl (.cons r8 .nil) ⟨_,acc,y8,rfl,rfl,q8,hlen,rfl⟩) (fun _ s9 ⟨_,H9,I9,_,e9⟩ => ?_) fun _ _ z => False.elim z
      subst e9
      refine ⟨m',hm',i + 1,acc ++ [y8],some y,_,I9.unpinned,T.keep _ _ _ st6 fun b hb o e => (I9.pin (b,o) (List.mem_append_right _ (List.mem_append_right _ (mem_pinsAt hb e)))).1,fun b hb => ?_,w8⟩
      obtain ⟨o,e,d⟩ := T.obj _ _ st6 b hb
      exact (I9.pin (b,o) (List.mem_append_right _ (List.mem_append_right _ (mem_pinsAt hb e)))).2.1
  exact codeAny_compStart_list loop (T.self _ 0 _ _ _ st4 loop)
theorem pe_comp {wi : TI} (hcalm : X.calm = true) (C : CompN X scope cl x fv) (hi : PI X (.Name x px) iter wi) (he : ∀ (fp : List Addr) (s₀ : Shared) (H₀ : Hp),PE (X.blk (x :: fv.map (·.1)) scope cl fp s₀ H₀) elt te)
    (hs : ∀ v,foldedSetIterable iter X.env v = pure v := by intro _; rfl) : PE X (.ListComp elt [⟨.Name x px,iter,[],0⟩] scope pos) (tComp wi fv te) := by
  intro pins s σ H Q I h
  rw [eval_ListComp]
  refine wpAny_comprehension_free (use := none) rfl hs C.clos C.kind C.names (wpAny_mono (hi pins s σ H _ I h) (fun v s1 h1 => wpAny_mono h1 (fun itv s2 h2 => ?_) fun _ _ z => z) fun _ _ z => z)
  obtain ⟨it,fp,tn,J,H2,rfl,I2,T,st2,f2,rd⟩ := h2
  refine blk_run (Qf := Q) hcalm C I2 T st2 f2 rd (he fp) fun p D H' s' ns nL nH n0 nC nP I8 q => ?_
  obtain ⟨m,hn⟩ := ns
  exact ⟨m,hn,fun h'' sb => ⟨.ref p,H',I8.turned (t' := s'.toks) (fun b o hb e => (sb.2 b hb).trans e) nH nL (.inr n0) nC nP,rfl,q⟩⟩
end
end L2
namespace L2
open PySem PySem.Spec PyProof.Rows
theorem comp_range {n : Nat} {lo : Int} {fv : List (Str × Nat)} {te : TE} {σ : St} {H1 : Hp} {Qp : Hp → Prop} {l : Addr} (Pv : Nat → List V → Hp → Prop) (h0 : Pv 0 [] (upd H1 l (.lst []))) (hp : ∀ i acc H2,i ≤ n → Pv i acc H2 → H2 l = some (.lst acc) ∧ acc.length < sizeLine)
    (hs : ∀ i acc H2 (K : VK),i < n → Pv i acc H2 → (∀ y H4,H4 l = some (.lst acc) → Pv (i + 1) (acc ++ [y]) (upd H4 l (.lst (acc ++ [y]))) → K y H4) → te (some (.int (lo + i)) :: fvs fv σ) H2 K) (hd : ∀ acc H2,Pv n acc H2 → Qp H2) :
    ∃ W : Nat → Nat → List V → Hp → Prop,(∃ m,W 0 m [] (upd H1 l (.lst []))) ∧ ∀ i m acc H2,W i m acc H2 →
      H2 l = some (.lst acc) ∧ acc.length < sizeLine ∧ (((Itr lo n).stop i H2 ∧ Qp H2) ∨ ((Itr lo n).go i H2 ∧ ∀ x H3,(Itr lo n).yld i H2 x H3 → te (some x :: fvs fv σ) H3 fun y H4 => H4 l = some (.lst acc) ∧ ∃ m',m' < m ∧ W (i + 1) m' (acc ++ [y]) (upd H4 l (.lst (acc ++ [y]))))) := by
  refine ⟨fun i m acc H2 => m = n - i ∧ i ≤ n ∧ Pv i acc H2,⟨n,by simp,Nat.zero_le _,h0⟩,?_⟩
  rintro i m acc H2 ⟨rfl,hi,p⟩
  refine ⟨(hp i acc H2 hi p).1,(hp i acc H2 hi p).2,?_⟩
  by_cases hlt : i < n
  · refine .inr ⟨hlt,fun x H3 y => ?_⟩
    obtain ⟨e1,e2⟩ := y
    subst e1 e2
    exact hs i acc _ _ hlt p fun y H4 z1 z2 => ⟨z1,n - (i + 1),by omega,rfl,hlt,z2⟩
  · have e : i = n := by omega
    subst e
    exact .inl ⟨Nat.le_refl _,hd acc H2 p⟩
end L2
namespace L2
open PySem PySem.Spec PyProof.Rows
theorem ix_listK {X : Cx} {K : PySem.W.Frag} (h : X.K = K) : IxR X (rIxL K) := h ▸ ix_list
end L2
namespace L2
open PySem PySem.Spec PyProof.Rows
theorem comp_list {K : PySem.W.Frag} {a : Addr} {xs : List V} {fv : List (Str × Nat)} {te : TE} {σ : St} {H1 : Hp} {Qp : Hp → Prop} {l : Addr} (Pv : Nat → List V → Hp → Prop) (h0 : Pv 0 [] (upd H1 l (.lst []))) (hp : ∀ i acc H2,i ≤ xs.length → Pv i acc H2 → SqL K H2 a xs ∧ H2 l = some (.lst acc) ∧ acc.length < sizeLine)
    (hs : ∀ i x acc H2 (Kc : VK),xs[i]? = some x → Pv i acc H2 → (∀ y H4,H4 l = some (.lst acc) → Pv (i + 1) (acc ++ [y]) (upd H4 l (.lst (acc ++ [y]))) → Kc y H4) → te (some x :: fvs fv σ) H2 Kc) (hd : ∀ acc H2,Pv xs.length acc H2 → Qp H2) :
    ∃ W : Nat → Nat → List V → Hp → Prop,(∃ m,W 0 m [] (upd H1 l (.lst []))) ∧ ∀ i m acc H2,W i m acc H2 →
      H2 l = some (.lst acc) ∧ acc.length < sizeLine ∧ (((Itl K a).stop i H2 ∧ Qp H2) ∨ ((Itl K a).go i H2 ∧ ∀ x H3,(Itl K a).yld i H2 x H3 → te (some x :: fvs fv σ) H3 fun y H4 => H4 l = some (.lst acc) ∧ ∃ m',m' < m ∧ W (i + 1) m' (acc ++ [y]) (upd H4 l (.lst (acc ++ [y]))))) := by
  refine ⟨fun i m acc H2 => m = xs.length - i ∧ i ≤ xs.length ∧ Pv i acc H2,⟨xs.length,by simp,Nat.zero_le _,h0⟩,?_⟩
  rintro i m acc H2 ⟨rfl,hi,p⟩
  obtain ⟨q1,q2,q3⟩ := hp i acc H2 hi p
  refine ⟨q2,q3,?_⟩
  by_cases hlt : i < xs.length
  · refine .inr ⟨⟨xs,xs[i],q1,List.getElem?_eq_getElem hlt⟩,fun x H3 y => ?_⟩
    obtain ⟨e1,e2⟩ := y
    subst e1
    exact hs i x acc _ _ (e2 xs q1) p fun y H4 z1 z2 => ⟨z1,xs.length - (i + 1),by omega,rfl,hlt,z2⟩
  · have e : i = xs.length := by omega
    subst e
    exact .inl ⟨⟨xs,q1,Nat.le_refl _⟩,hd acc H2 p⟩
end L2
namespace L2
open PySem PySem.Spec PyProof.Rows
theorem val_get {xs : List V} {us : List Value} {j : Nat} (r : Vals xs us) (h : j < us.length) : ∃ a,xs[j]? = some a ∧ RelV a us[j] := by
  have hl := r.length
  have hj : j < xs.length := by omega
  obtain ⟨u,e,q⟩ := r.get (i := j) (x := xs[j]) (List.getElem?_eq_getElem hj)
  rw [List.getElem?_eq_getElem h] at e
  cases e
  exact ⟨xs[j],List.getElem?_eq_getElem hj,q⟩
section
variable {X : Cx} {pins : List (Addr × Obj)} {σ : St} {H : Hp} {s : Shared}
end
end L2
namespace L2
open PySem
theorem Room.units10 {k : Nat} {A : Around} (r : Room k A) : A.units + 10 < cLine := by have := r.un; omega
end L2
namespace L2
open PySem PySem.Spec PyProof.Rows
end L2
namespace Sp3
open PySem PySem.Spec L2 Mth Sp1 Sp2
end Sp3
namespace Sp3
open PySem PySem.Spec L2 Mth Sp1 Sp2
abbrev Crn := List (Addr × Int × Int)
end Sp3
namespace PySem
open Sem (wp)
section
variable {prog : Program} {w : World} {A : Around} {E : Value → Shared → Prop} {h : Heap} {g : Array GenState} {d : Drawn} {t : Nat} {os : OsState} {a : Addr} {o : Obj}
  {nm q : Str} {C N : Addr} {bs bm : List Value} {hdct : Bool} {sn : List Str} {sub : List Value} {ab : Bool} {col : Option Bool} {dd : Option Addr} {k0 k1 k2 k3 k5 : Option Value} {newId : String}
end
end PySem
namespace L2
open PySem PySem.Spec PyProof.Rows
section
variable {X : Cx}
end
section
variable {X : Cx} {pins : List (Addr × Obj)} {σ : St} {H : Hp} {s : Shared}
theorem Inv.track {a : Addr} {o : HO} (I : Inv X pins σ H s) (hn : H a = none) (h0 : X.s₀.heap.get? a = none) (hl : a ≠ X.env.locals) (hc : ∀ x c,X.env.cells.lookup x = some c → c ≠ a) (hp : ∀ p ∈ X.pn ++ pins,p.1 ≠ a)
    (ho : ObjOk X.prog X.w (upd H a o) s.heap a o) : Inv X pins σ (upd H a o) s where
  ok := I.ok
  os := I.os
  bare := I.bare
  base := {
    keep := I.base.keep
    slot := I.base.slot
    free := fun b ob e n hx => by
      rw [upd_ne (fun z => by subst z; rw [h0] at e; cases e)]
      exact I.base.free b ob e n hx
    there := I.base.there
    tups := fun b xs q => by
      have z := I.base.tups b xs q
      rw [upd_ne (ne_of_none z hn)]
      exact z
    frzs := fun b ob u q => by
      have z := I.base.frzs b ob u q
      rw [upd_ne (ne_of_none z hn)]
      exact z
    tbls := fun b ps q => by
      obtain ⟨m,z⟩ := I.base.tbls b ps q
      exact ⟨m,by rw [upd_ne (ne_of_none z hn)]; exact z⟩ }
  loc := I.loc
  cell := I.cell
  free := by rw [upd_ne (Ne.symm hl)]; exact I.free
  freeC := fun x c e => by rw [upd_ne (hc x c e)]; exact I.freeC x c e
  pin := fun p m => by
    obtain ⟨p1,p2,p3⟩ := I.pin p m
    exact ⟨p1,by rw [upd_ne (hp p m)]; exact p2,p3⟩
  hok := fun b u q => by
    by_cases hb : b = a
    · subst hb
      rw [upd_same] at q
      cases q
      exact ho
    · rw [upd_ne hb] at q
      exact (I.hok b u q).stay (fun _ _ _ r => r) (fun c r => by rw [upd_ne (ne_of_none r hn)]; exact r) fun c xs r => by rw [upd_ne (ne_of_none r hn)]; exact r
  len := I.len
end
section
variable {X : Cx}
end
end L2
namespace Sp8
open PySem PySem.Spec L2 Mth Sp1 Sp2 Sp3
end Sp8
namespace L2
open PySem PySem.Spec PyProof.Rows
end L2
namespace Sp24
open PySem PySem.Spec L2 Mth Sp1 Sp2 Sp3 Sp8
end Sp24
namespace L2
open PySem PySem.Spec PyProof.Rows
theorem bt_all : bootBuiltins "all" = some (.builtin "all") := by decide +kernel
theorem bl_at {bs : List Bool} {us : List Value} {i : Nat} {v : Value} (r : Vals (bs.map V.bl) us) (h : us[i]? = some v) : ∃ b,bs[i]? = some b ∧ v = .bool b := by
  have hl := r.length
  rw [List.length_map] at hl
  have hi : i < us.length := (List.getElem?_eq_some_iff.mp h).1
  have hj : i < bs.length := by omega
  obtain ⟨u,e,q⟩ := r.get (i := i) (x := .bl bs[i]) (by rw [List.getElem?_map,List.getElem?_eq_getElem hj]; rfl)
  rw [h] at e
  cases e
  exact ⟨bs[i],List.getElem?_eq_getElem hj,q⟩
theorem all_range (bs : List Bool) : ((List.range bs.length).all fun i => (bs[i]?).getD true) = bs.all id := by
  rw [Bool.eq_iff_iff]
  simp only [List.all_eq_true,List.mem_range,id]
  constructor
  · intro h b hb
    obtain ⟨i,hi,rfl⟩ := List.mem_iff_getElem.mp hb
    have z := h i hi
    rw [List.getElem?_eq_getElem hi] at z
    exact z
  · intro h i hi
    rw [List.getElem?_eq_getElem hi]
    exact h _ (List.getElem_mem hi)
theorem call_all {X : Cx} (hc : X.calm = true) : CallR X (.builtin "all") (fun xs H Q => ∃ (p : Addr) (bs : List Bool),xs = [.ref p] ∧ SqL X.K H p (bs.map V.bl) ∧ Q (.bl (bs.all id)) H) := by
  intro pins s σ H xs us Q I r h
  obtain ⟨p,bs,rfl,hq,q⟩ := h
  obtain ⟨u,rfl,rx⟩ := vals1 r
  cases rx
  obtain ⟨its,rv,pl,_⟩ := I.list hq
  have hl := pl.isList
  have lt : p < s.heap.objs.size := by
    obtain ⟨_,e,_⟩ := hl
    exact Heap.lt_size e
  refine call_all_walk (wpAny_pyIter_list hl ?_)
  refine ⟨s.heap.objs.size,[s.heap.objs.size,p],[s.heap.objs.size],its.toArray.size,_,_,fun i => (bs[i]?).getD true,rfl,Walks.list (A := X.A.in1) (I.ok.hd hc) _ p (Nat.ne_of_lt lt) its.toArray,?_⟩
  refine ⟨⟨⟨_,Heap.get?_push_size _ rfl,rfl,rfl⟩,hl.push _⟩,fun i v s' Q' E' hP hQ => ?_,fun h' tk hk => ?_⟩
  · obtain ⟨b,e,rfl⟩ := bl_at rv (by simpa using hP)
    simp only [e,Option.getD_some] at hQ
    exact wpAny_truthy_bool hQ
  · have el : its.toArray.size = bs.length := by
      have := rv.length
      rw [List.length_map] at this
      rw [List.size_toArray]
      omega
    rw [el,all_range]
    refine ⟨.bl _,H,I.kept (t' := tk) fun b o e => ?_,rfl,q⟩
    exact hk b o (fun hm => by rw [List.mem_singleton.mp hm] at e; exact Nat.lt_irrefl _ (Heap.lt_size e)) (Heap.get?_push_of_some _ e)
end L2
namespace Sp7
open PySem PySem.Spec L2 Mth Sp1 Sp2 Sp3
def larg : Int := 999999999999
def Sm (x : Int) : Prop := -larg ≤ x ∧ x ≤ larg
structure LineM (H : Hp) (l : Addr) (qs : Crn) : Prop where
  lst : H l = some (.lst (qs.map fun q => V.ref q.1))
  crn : ∀ q ∈ qs,H q.1 = some (.tup [.int q.2.1,.int q.2.2]) ∧ Sm q.2.1 ∧ Sm q.2.2
theorem LineM.mono {H H' : Hp} {l : Addr} {qs : Crn} (L : LineM H l qs) (s : Same H H') : LineM H' l qs := ⟨s _ _ L.lst,fun q h => ⟨s _ _ (L.crn q h).1,(L.crn q h).2⟩⟩
theorem sm_bits {x : Int} (h : Sm x) : bits x ≤ 50 := by
  obtain ⟨a,b⟩ := h
  unfold larg at a b
  refine bits_of (n := 50) ?_
  show _ < 1125899906842624
  omega
def retScope (s : Stmt) : Scope := match s with
  | .Return (some (.Call _ [.ListComp _ _ sc _] _ _)) _ => sc
  | .Return (some (.ListComp _ _ sc _)) _ => sc
  | _ => { kind := .function,names := [],isGenerator := false,isCoroutine := false }
end Sp7
namespace L2
open PySem PySem.Spec PyProof.Rows
theorem dec_t {p : Prop} [Decidable p] (h : decide p = true) : p := of_decide_eq_true h
theorem dec_f {p : Prop} [Decidable p] (h : decide p = false) : ¬ p := of_decide_eq_false h
theorem CM.of {i j : Int} {m n : Nat} (hi : bits i ≤ m) (hj : bits j ≤ n) (h : m ≤ 1000000 ∧ n ≤ 1000000) : CM i j := CM.b hi hj (by have : (2:Nat) ^ 20 = 1048576 := by decide
                                                                                                                                     omega) (by have : (2:Nat) ^ 20 = 1048576 := by decide
                                                                                                                                                omega)
end L2
namespace L2
open PySem PySem.Spec PyProof.Rows
def SameT (H H' : Hp) : Prop := ∀ b xs,H b = some (.tup xs) → H' b = some (.tup xs)
theorem Same.t {H H' : Hp} (s : Same H H') : SameT H H' := fun b xs e => s b _ e
theorem SameT.trans {H H1 H2 : Hp} (a : SameT H H1) (b : SameT H1 H2) : SameT H H2 := fun c xs e => b c xs (a c xs e)
theorem SameT.upd {H : Hp} {l : Addr} {xs ys : List V} (hl : H l = some (.lst xs)) : SameT H (upd H l (.lst ys)) := fun b zs e => by
  rw [upd_ne (ne_of e hl (by intro z; cases z))]
  exact e
theorem Same.upd {H0 H : Hp} {l : Addr} {o : HO} (s : Same H0 H) (hl : H0 l = none) : Same H0 (upd H l o) := fun b u e => by
  rw [upd_ne (ne_of_none e hl)]
  exact s b u e
def CompAt (J : It) (fv : List (Str × Nat)) (te : TE) (σ : St) (H1 : Hp) (Q : VK) : Prop := ∀ p,H1 p = none → ∃ W : Nat → Nat → List V → Hp → Prop,(∃ m,W 0 m [] (upd H1 p (.lst []))) ∧ ∀ i m acc H2,W i m acc H2 →
  H2 p = some (.lst acc) ∧ acc.length < sizeLine ∧ ((J.stop i H2 ∧ Q (.ref p) H2) ∨ (J.go i H2 ∧ ∀ x H3,J.yld i H2 x H3 → te (some x :: fvs fv σ) H3 fun y H4 => H4 p = some (.lst acc) ∧ ∃ m',m' < m ∧ W (i + 1) m' (acc ++ [y]) (upd H4 p (.lst (acc ++ [y])))))
def tCompA (wi : TI) (fv : List (Str × Nat)) (te : TE) : TE := fun σ H Q => wi σ H fun J H1 => CompAt J fv te σ H1 Q
section
variable {X : Cx} {scope : Scope} {cl : List (Str × Addr)} {x : Str} {fv : List (Str × Nat)} {elt iter : Expr} {px pos : Pos} {te : TE}
theorem pe_compA {wi : TI} (hcalm : X.calm = true) (C : CompN X scope cl x fv) (hi : PI X (.Name x px) iter wi) (he : ∀ (fp : List Addr) (s₀ : Shared) (H₀ : Hp),PE (X.blk (x :: fv.map (·.1)) scope cl fp s₀ H₀) elt te)
    (hs : ∀ v,foldedSetIterable iter X.env v = pure v := by intro _; rfl) : PE X (.ListComp elt [⟨.Name x px,iter,[],0⟩] scope pos) (tCompA wi fv te) := pe_comp hcalm C hi he hs
end
theorem comp_R {K : PySem.W.Frag} {a : Addr} {xs : List V} {fv : List (Str × Nat)} {te : TE} {σ : St} {H1 : Hp} {Q : VK} (hL : SqL K H1 a xs) (hlen : xs.length < 1000) (R : Nat → V → Hp → Prop) (hR : ∀ i v H H',SameT H H' → R i v H → R i v H')
    (hs : ∀ i x H2 (Kc : VK),xs[i]? = some x → Same H1 H2 → (∀ y H4,Same H2 H4 → R i y H4 → Kc y H4) → te (some x :: fvs fv σ) H2 Kc)
    (hd : ∀ l ys H',H1 l = none → Same H1 H' → H' l = some (.lst ys) → ys.length = xs.length → (∀ i y,ys[i]? = some y → R i y H') → Q (.ref l) H') :
    CompAt (Itl K a) fv te σ H1 Q := by
  intro l hl
  refine comp_list (K := K) (a := a) (xs := xs) (l := l) (fv := fv) (Qp := fun H2 => Q (.ref l) H2) (fun i acc H2 => acc.length = i ∧ Same H1 H2 ∧ H2 l = some (.lst acc) ∧ ∀ j y,acc[j]? = some y → R j y H2)
    ⟨rfl,Same.new hl,upd_same,fun j y h => by simp at h⟩ ?_ ?_ ?_
  · rintro i acc H2 hi ⟨e1,sm,e3,_⟩
    exact ⟨sm.seq hL,e3,small1000 (by omega)⟩
  · rintro i x acc H2 Kc hx ⟨e1,sm,e3,hr⟩ kk
    refine hs i x H2 Kc hx sm fun y H4 s4 ry => kk y H4 (s4 _ _ e3) ⟨by simp [e1],(sm.trans s4).upd hl,upd_same,fun j z hz => ?_⟩
    have t4 := SameT.upd (ys := acc ++ [y]) (s4 _ _ e3)
    rcases Nat.lt_trichotomy j acc.length with h | h | h
    · rw [List.getElem?_append_left h] at hz
      exact hR _ _ _ _ (s4.t.trans t4) (hr j z hz)
    · subst h
      rw [List.getElem?_append_right (Nat.le_refl _),Nat.sub_self] at hz
      cases hz
      rw [e1]
      exact hR _ _ _ _ t4 ry
    · rw [List.getElem?_eq_none (by simp; omega)] at hz
      cases hz
  · rintro acc H2 ⟨e1,sm,e3,hr⟩
    exact hd l acc H2 hl sm e3 e1 hr
theorem nice_int : Nice "int" := .inl rfl
theorem nice_bool : Nice "bool" := .inr (.inl rfl)
theorem nice_tuple : Nice "tuple" := .inr (.inr (.inl rfl))
theorem nice_list : Nice "list" := .inr (.inr (.inr (.inl rfl)))
end L2
namespace L2
open PySem PySem.Spec PyProof.Rows
section
variable {X : Cx} {pos : Pos} {es : List Expr} {ta : TA}
def tTupA (t : TA) : TE := fun σ H Q => t σ H fun xs H1 => xs.length ≤ sizeLine ∧ ∀ p H2,Same H1 H2 → H2 p = some (.tup xs) → H1 p = none → Q (.ref p) H2
def tLstA (t : TA) : TE := fun σ H Q => t σ H fun xs H1 => xs.length ≤ sizeLine ∧ ∀ p H2,Same H1 H2 → H2 p = some (.lst xs) → H1 p = none → Q (.ref p) H2
theorem pe_tupA {x1} (h : PA X es ta) : PE X (.Tuple es x1 pos) (tTupA ta) := by
  intro pins s σ H Q I hq
  refine wpAny_Tuple_spliced (thn (h pos pins s σ H _ I hq) fun us s1 ⟨xs,H1,I1,r,z,q⟩ => ⟨by rw [← r.length]; exact z,?_⟩)
  have hf : H1 s1.heap.objs.size = none := I1.hok.fresh (Nat.le_refl _)
  refine ⟨.ref s1.heap.objs.size,upd H1 s1.heap.objs.size (.tup xs),I1.laid (t' := s1.toks) (fun b u e => Heap.get?_push_of_some _ e) (Nat.le_refl _) ?_,rfl,q _ _ (Same.new hf) upd_same hf⟩
  exact ⟨z,us,r,⟨_,Heap.get?_push_size _ rfl,rfl,_,rfl⟩⟩
theorem pe_lstA (h : PA X es ta) : PE X (.List es pos) (tLstA ta) := by
  intro pins s σ H Q I hq
  refine wpAny_List_spliced (thn (h pos pins s σ H _ I hq) fun us s1 ⟨xs,H1,I1,r,z,q⟩ => ⟨by rw [← r.length]; exact z,?_⟩)
  have hf : H1 s1.heap.objs.size = none := I1.hok.fresh (Nat.le_refl _)
  refine ⟨.ref s1.heap.objs.size,upd H1 s1.heap.objs.size (.lst xs),I1.laid (t' := s1.toks) (fun b u e => Heap.get?_push_of_some _ e) (Nat.le_refl _) ?_,rfl,q _ _ (Same.new hf) upd_same hf⟩
  exact ⟨z,us,0,r,Heap.get?_push_size _ rfl⟩
def rSlLA (K : PySem.W.Frag) : V → Option Int → Option Int → Hp → VK → Prop := fun x lo hi H Q => ∃ a xs,x = .ref a ∧ SqL K H a xs ∧ ∀ p H2,Same H H2 → H2 p = some (.lst (cutV xs lo hi)) → H p = none → Q (.ref p) H2
theorem sl_listA : SlR X (rSlLA X.K) := fun pins s σ H x v vl vu lo hi sl Q I rx hs pl pu ⟨a,xs,e,hx,q⟩ =>
  sl_list pins s σ H x v vl vu lo hi sl Q I rx hs pl pu ⟨a,xs,e,hx,fun p hp => q p _ (Same.new hp) upd_same hp⟩
def rCatA : R2 := fun x y H Q => ∃ l b xs zs,x = .ref l ∧ y = .ref b ∧ H l = some (.lst xs) ∧ H b = some (.lst zs) ∧ xs.length + zs.length ≤ sizeLine ∧ ∀ p H2,Same H H2 → H2 p = some (.lst (xs ++ zs)) → H p = none → Q (.ref p) H2
theorem op_catA : OpR X (binaryOp .Add) rCatA := fun pins s σ H x y v u Q I rx ry ⟨l,b,xs,zs,e1,e2,h1,h2,hz,q⟩ =>
  op_cat pins s σ H x y v u Q I rx ry ⟨l,b,xs,zs,e1,e2,h1,h2,hz,fun p hp => q p _ (Same.new hp) upd_same hp⟩
theorem call_list_ofA : CallR X (.type "list") (fun xs H Q => ∃ p ys,xs = [.ref p] ∧ (SqL X.K H p ys ∨ SqT X.K H p ys) ∧ ∀ l H2,Same H H2 → H2 l = some (.lst ys) → H l = none → Q (.ref l) H2) := fun pins s σ H xs us Q I r ⟨p,ys,e,hq,q⟩ =>
  call_list_of pins s σ H xs us Q I r ⟨p,ys,e,hq,fun l hl => q l _ (Same.new hl) upd_same hl⟩
structure Upd (H H' : Hp) (l : Addr) (xs ys : List V) : Prop where
  was : H l = some (.lst xs)
  now : H' l = some (.lst ys)
  oth : ∀ b,b ≠ l → H' b = H b
theorem Upd.mk' {H : Hp} {l : Addr} {xs ys : List V} (h : H l = some (.lst xs)) : Upd H (L2.upd H l (.lst ys)) l xs ys := ⟨h,upd_same,fun _ n => upd_ne n⟩
theorem Upd.t {H H' : Hp} {l : Addr} {xs ys : List V} (u : Upd H H' l xs ys) : SameT H H' := fun b zs e => by
  rw [u.oth b (ne_of e u.was (by intro z; cases z))]
  exact e
theorem Upd.same {H0 H H' : Hp} {l : Addr} {xs ys : List V} (u : Upd H H' l xs ys) (s : Same H0 H) (h : H0 l = none) : Same H0 H' := fun b o e => by
  rw [u.oth b (ne_of_none e h)]
  exact s b o e
theorem Upd.at {H H' : Hp} {l b : Addr} {xs ys : List V} {o : HO} (u : Upd H H' l xs ys) (n : b ≠ l) (e : H b = some o) : H' b = some o := by
  rw [u.oth b n]
  exact e
def rAppendA : V → List V → Hp → VK → Prop := fun x vs H Q => ∃ l xs y,x = .ref l ∧ vs = [y] ∧ H l = some (.lst xs) ∧ xs.length < sizeLine ∧ ∀ H',Upd H H' l xs (xs ++ [y]) → Q .non H'
theorem mt_appendA : MtM X "list.append" rAppendA := fun pins s σ H x xs v us Q I rx rs ⟨l,ys,y,e1,e2,h,hz,q⟩ =>
  mt_append pins s σ H x xs v us Q I rx rs ⟨l,ys,y,e1,e2,h,hz,q _ (.mk' h)⟩
def rSetLA : V → V → V → Hp → (Hp → Prop) → Prop := fun o i v H Q => ∃ p xs k j,o = .ref p ∧ i = .int k ∧ H p = some (.lst xs) ∧ ixN xs.length k = some j ∧ ∀ H',Upd H H' p xs (xs.set j v) → Q H'
theorem set_listA : PSet X rSetLA := fun pins s σ H o i v uo ui uv Q I ro ri rv ⟨p,xs,k,j,e1,e2,h,hj,q⟩ =>
  set_list pins s σ H o i v uo ui uv Q I ro ri rv ⟨p,xs,k,j,e1,e2,h,hj,q _ (.mk' h)⟩
end
end L2
namespace L2
open PySem PySem.Spec PyProof.Rows
theorem menu {K : PySem.W.Frag} {H : Hp} {l : Addr} {xs : List V} {i : Int} {Q : VK} (e : H l = some (.lst xs)) (h0 : 0 ≤ i) (h1 : i < (xs.length : Int)) (h : ∀ v ∈ xs,Q v H) : rIxL K (.ref l) (.int i) H Q := by
  obtain ⟨v,hv,mv⟩ := Sp1.atI_mem h0 h1
  exact ⟨l,xs,i,v,rfl,rfl,SqL.of e,hv,h v mv⟩
theorem len3 {α : Type} {xs : List α} (h : xs.length = 3) : ∃ a b c,xs = [a,b,c] := match xs,h with | [a,b,c],_ => ⟨a,b,c,rfl⟩
theorem len2 {α : Type} {xs : List α} (h : xs.length = 2) : ∃ a b,xs = [a,b] := match xs,h with | [a,b],_ => ⟨a,b,rfl⟩
theorem len4 {α : Type} {xs : List α} (h : xs.length = 4) : ∃ a b c d,xs = [a,b,c,d] := match xs,h with | [a,b,c,d],_ => ⟨a,b,c,d,rfl⟩
theorem len5 {α : Type} {xs : List α} (h : xs.length = 5) : ∃ a b c d e,xs = [a,b,c,d,e] := match xs,h with | [a,b,c,d,e],_ => ⟨a,b,c,d,e,rfl⟩
theorem len6 {α : Type} {xs : List α} (h : xs.length = 6) : ∃ a b c d e f,xs = [a,b,c,d,e,f] := match xs,h with | [a,b,c,d,e,f],_ => ⟨a,b,c,d,e,f,rfl⟩
end L2
namespace L2
open PySem PySem.Spec PyProof.Rows
section
variable {X : Cx} {pins : List (Addr × Obj)} {σ : St} {H : Hp} {s : Shared}
theorem Inv.turnedL {h' : Heap} {t' : Nat} {ch : List Addr} (I : Inv X pins σ H s) (k : ∀ b o,b ∉ ch → s.heap.get? b = some o → h'.get? b = some o) (hf : ∀ b ∈ ch,FpOk X pins H b) : Inv X pins σ H { s with heap := h',toks := t' } := by
  have nit : ∀ b u,H b = some u → b ∉ ch := fun b u e z => by
    have n := (hf b z).1
    rw [n] at e
    cases e
  refine I.step (g' := s.gens) (d' := s.drawn) (ch := ch) (fun b hb => ?_) (fun b o _ _ hc e _ => k b o hc e) (fun b o _ _ hc e _ => ⟨o.slots,k b o hc e⟩) (fun _ _ _ _ n => n)
    (fun b o hc e => ⟨o,k b o hc e⟩) (fun _ _ e => e) (fun _ _ _ e => e) (fun b ps e => ⟨#[],by rw [e]; simp⟩) (fun m hm => ?_) (fun b u e => ?_) I.bare
  · obtain ⟨f0,f1,f2,f3,f4,f5⟩ := hf b hb
    exact ⟨f3,f1,f4,f5⟩
  · obtain ⟨o,es,ep,ho,r⟩ := hm
    exact ⟨o,es,ep,k _ o (fun z => (hf _ z).2.1 rfl) ho,r⟩
  · refine (I.hok b u e).stay (fun c v hc q => k c v ?_ q) (fun _ q => q) fun _ _ q => q
    rcases hc with z | z
    · rw [z]; exact nit b u e
    · exact nit c _ z
theorem turn_item {E : Value → Shared → Prop} {elts : List Expr} {kt : Nat} {pos : Pos} {i n : Nat} {z : Addr} {fpw wr : List Addr} {Pt : Nat → Array Value → Prop} {Stt : Nat → Heap → Prop} {Mid : Nat → Addr → Heap → Prop} {R : Value → Shared → Prop}
    (W : WalksT X.prog X.w X.A z fpw wr n Pt Stt Mid) (I : Inv X pins σ H s) (hwr : ∀ b ∈ wr,FpOk X pins H b) (hi : i < n) (st : Stt i s.heap)
    (k : ∀ T vals s2,Pt i vals → s.heap.objs.size ≤ T → s2.heap.IsTuple T vals → Stt (i + 1) s2.heap → Inv X pins σ H s2 → (∀ b o,b ∉ wr → s.heap.get? b = some o → s2.heap.get? b = some o) → R (.ref T) s2) :
    wpAny (model X.prog X.w) X.A (pyNext (.ref z)) (fun r s1 => ∃ u,r = some u ∧ wpAny (model X.prog X.w) X.A (letOwnedTupleGo (.Tuple elts kt pos) (.ref z) u) (fun _ s2 => R u s2) E s1) E s := by
  refine W.item i s _ E hi st fun T vals h' tk hp hT tup mid kk => ⟨.ref T,rfl,?_⟩
  refine W.go elts kt pos i T _ _ E mid fun h2 st2 k2 => ?_
  have kall : ∀ b o,b ∉ wr → s.heap.get? b = some o → h2.get? b = some o := fun b o hb e => k2 b o hb (kk b o hb e)
  obtain ⟨o,eo,ro⟩ := tup
  exact k T vals _ hp hT ⟨o,k2 T o (W.apart i T _ mid) eo,ro⟩ st2 (I.turnedL (t' := tk) kall hwr) kall
theorem track_tup {T : Addr} {s2 : Shared} {xs : List V} {us : List Value} (I : Inv X pins σ H s) (J : Inv X pins σ H s2) (hT : s.heap.objs.size ≤ T) (ht : s2.heap.IsTuple T us.toArray) (r : Vals xs us) (hz : xs.length ≤ sizeLine) : Inv X pins σ (upd H T (.tup xs)) s2 ∧ H T = none := by
  have hn : H T = none := I.hok.fresh hT
  obtain ⟨f0,f1,f2,f3,f4,f5⟩ := I.fpOk hT hn
  refine ⟨J.track hn ?_ f1 f4 f5 ⟨hz,us,r,ht⟩,hn⟩
  cases e : X.s₀.heap.get? T with
  | none => rfl
  | some o =>
    have h1 := Heap.lt_size e
    have h2 := I.sz
    exact absurd (Nat.lt_of_lt_of_le h1 (Nat.le_trans h2 hT)) (Nat.lt_irrefl _)
end
def Itz (K : PySem.W.Frag) (l1 l2 : Addr) : It :=
  ⟨fun i H => ∃ xs ys x y,SqL K H l1 xs ∧ SqL K H l2 ys ∧ xs[i]? = some x ∧ ys[i]? = some y,
   fun i H v H' => ∃ p x y,v = .ref p ∧ H p = none ∧ H' = upd H p (.tup [x,y]) ∧ ∀ xs ys,SqL K H l1 xs → SqL K H l2 ys → xs[i]? = some x ∧ ys[i]? = some y,
   fun i H => ∃ xs ys,SqL K H l1 xs ∧ SqL K H l2 ys ∧ i = min xs.length ys.length⟩
def Ite (K : PySem.W.Frag) (l : Addr) : It :=
  ⟨fun i H => ∃ xs x,SqL K H l xs ∧ xs[i]? = some x,
   fun i H v H' => ∃ p x,v = .ref p ∧ H p = none ∧ H' = upd H p (.tup [.int (i : Int),x]) ∧ ∀ xs,SqL K H l xs → xs[i]? = some x,
   fun i H => ∃ xs,SqL K H l xs ∧ i = xs.length⟩
theorem turn_zip {P : Program} {w : World} {K : PySem.W.Frag} {elts : List Expr} {kt : Nat} {pos : Pos} (z TI TO i1 i2 l1 l2 : Addr) (D : ZipApart z TI TO i1 i2 l1 l2) :
    Turn P w K (.Tuple elts kt pos) (Itz K l1 l2) [z,TI,TO,i1,i2] z (fun i h => IsZip h z TI TO .none ∧ IsPair h TI (.ref i1) (.ref i2) ∧ (∃ a b,IsPair h TO a b) ∧ h.IsListIter i1 l1 i ∧ h.IsListIter i2 l2 i) where
  mem := by simp
  obj := fun i h st b hb => by
    obtain ⟨hz,hTI,⟨a,c,hTO⟩,⟨o1,e1,c1,d1⟩,⟨o2,e2,c2,d2⟩⟩ := st
    simp only [List.mem_cons,List.not_mem_nil,or_false] at hb
    rcases hb with rfl | rfl | rfl | rfl | rfl
    · exact ⟨_,hz,fun v y => by cases y⟩
    · exact ⟨_,hTI,fun v y => by cases y⟩
    · exact ⟨_,hTO,fun v y => by cases y⟩
    · exact ⟨o1,e1,fun v y => by rw [d1] at y; cases y⟩
    · exact ⟨o2,e2,fun v y => by rw [d2] at y; cases y⟩
  keep := fun i h h' st k => by
    obtain ⟨hz,hTI,⟨a,c,hTO⟩,h1,h2⟩ := st
    exact ⟨k z (by simp) _ hz,k TI (by simp) _ hTI,⟨a,c,k TO (by simp) _ hTO⟩,h1.at fun o e => k i1 (by simp) o e,h2.at fun o e => k i2 (by simp) o e⟩
  item := by
    intro X hP hw hK hc i pins s σ H E I hf st hg
    subst hP hw hK
    obtain ⟨xs,ys,x,y,q1,q2,hx,hy⟩ := hg
    obtain ⟨its,r1,p1,_⟩ := I.list q1
    obtain ⟨jts,r2,p2,_⟩ := I.list q2
    obtain ⟨u1,hu1,ru1⟩ := r1.get hx
    obtain ⟨u2,hu2,ru2⟩ := r2.get hy
    have W := WalksT.zip2 (prog := X.prog) (w := X.w) (I.ok.hd hc) z TI TO i1 i2 l1 l2 D its.toArray jts.toArray
    have hn : i < min its.toArray.size jts.toArray.size := by
      have g1 := (List.getElem?_eq_some_iff.mp hu1).1
      have g2 := (List.getElem?_eq_some_iff.mp hu2).1
      simp only [List.size_toArray]
      omega
    obtain ⟨hz,hTI,hTO,h1,h2⟩ := st
    refine turn_item W I (fun b hb => hf b (by simp at hb ⊢; rcases hb with h | h | h | h <;> simp [h])) hn ⟨hz,hTI,hTO,h1,h2,p1.isList,p2.isList⟩ fun T vals s2 hp hT tup st2 J2 kall => ?_
    obtain ⟨v1,v2,e1,e2,rfl⟩ := hp
    have e1' : its[i]? = some v1 := by simpa using e1
    have e2' : jts[i]? = some v2 := by simpa using e2
    rw [hu1] at e1'
    rw [hu2] at e2'
    cases e1'
    cases e2'
    obtain ⟨J3,nT⟩ := track_tup (xs := [x,y]) (us := [u1,u2]) I J2 hT tup (.cons ru1 (.cons ru2 .nil)) (Sp1.sz (by simp))
    obtain ⟨hz2,hTI2,hTO2,h12,h22,_,_⟩ := st2
    refine ⟨.ref T,upd H T (.tup [x,y]),J3,rfl,⟨T,x,y,rfl,nT,rfl,fun as bs qa qb => ?_⟩,⟨hz2,hTI2,hTO2,h12,h22⟩,fun b hb => ?_⟩
    · rw [I.list_inj qa q1,I.list_inj qb q2]
      exact ⟨hx,hy⟩
    · have hb' : ∃ o,s.heap.get? b = some o := by
        obtain ⟨a,c,hTO⟩ := hTO
        obtain ⟨o1,e1,_⟩ := h1
        obtain ⟨o2,e2,_⟩ := h2
        simp only [List.mem_cons,List.not_mem_nil,or_false] at hb
        rcases hb with rfl | rfl | rfl | rfl | rfl
        · exact ⟨_,hz⟩
        · exact ⟨_,hTI⟩
        · exact ⟨_,hTO⟩
        · exact ⟨_,e1⟩
        · exact ⟨_,e2⟩
      obtain ⟨o,eo⟩ := hb'
      rw [upd_ne (Nat.ne_of_lt (Nat.lt_of_lt_of_le (Heap.lt_size eo) hT))]
      exact (hf b hb).1
  done := by
    intro X hP hw hK hc i pins s σ H E I hf st hg
    subst hP hw hK
    obtain ⟨xs,ys,q1,q2,rfl⟩ := hg
    obtain ⟨its,r1,p1,_⟩ := I.list q1
    obtain ⟨jts,r2,p2,_⟩ := I.list q2
    have W := WalksT.zip2 (prog := X.prog) (w := X.w) (I.ok.hd hc) z TI TO i1 i2 l1 l2 D its.toArray jts.toArray
    obtain ⟨hz,hTI,hTO,h1,h2⟩ := st
    have el : min its.toArray.size jts.toArray.size = min xs.length ys.length := by
      rw [List.size_toArray,List.size_toArray,r1.length,r2.length]
    refine W.done s _ E ?_ fun h' tk kk => ⟨rfl,I.turnedL (t' := tk) kk fun b hb => hf b (by simp at hb ⊢; rcases hb with h | h | h | h <;> simp [h])⟩
    rw [el]
    exact ⟨hz,hTI,hTO,h1,h2,p1.isList,p2.isList⟩
  self := fun _ _ _ _ _ st h => wpAny_pyIter_zip st.1 h
theorem turn_enum {P : Program} {w : World} {K : PySem.W.Frag} {elts : List Expr} {kt : Nat} {pos : Pos} (e it l : Addr) (hei : e ≠ it) (hle : l ≠ e) (hli : l ≠ it) :
    Turn P w K (.Tuple elts kt pos) (Ite K l) [e,it] e (fun i h => (∃ old,IsEnum h e it i old) ∧ h.IsListIter it l i) where
  mem := by simp
  obj := fun i h st b hb => by
    obtain ⟨⟨old,he⟩,⟨o1,e1,c1,d1⟩⟩ := st
    simp only [List.mem_cons,List.not_mem_nil,or_false] at hb
    rcases hb with rfl | rfl
    · exact ⟨_,he,fun v y => by cases y⟩
    · exact ⟨o1,e1,fun v y => by rw [d1] at y; cases y⟩
  keep := fun i h h' st k => by
    obtain ⟨⟨old,he⟩,h1⟩ := st
    exact ⟨⟨old,k e (by simp) _ he⟩,h1.at fun o x => k it (by simp) o x⟩
  item := by
    intro X hP hw hK hc i pins s σ H E I hf st hg
    subst hP hw hK
    obtain ⟨xs,x,q1,hx⟩ := hg
    obtain ⟨its,r1,p1,_⟩ := I.list q1
    obtain ⟨u1,hu1,ru1⟩ := r1.get hx
    have W := WalksT.enumerate (prog := X.prog) (w := X.w) (I.ok.hd hc) e it l hei hle hli its.toArray
    have hn : i < its.toArray.size := by
      have g1 := (List.getElem?_eq_some_iff.mp hu1).1
      simp only [List.size_toArray]
      omega
    obtain ⟨he,h1⟩ := st
    refine turn_item W I (fun b hb => hf b (by simpa using hb)) hn ⟨he,h1,p1.isList⟩ fun T vals s2 hp hT tup st2 J2 kall => ?_
    obtain ⟨tk,v1,e1,rfl⟩ := hp
    have e1' : its[i]? = some v1 := by simpa using e1
    rw [hu1] at e1'
    cases e1'
    obtain ⟨J3,nT⟩ := track_tup (xs := [.int (i : Int),x]) (us := [.int i tk,u1]) I J2 hT tup (.cons ⟨_,rfl⟩ (.cons ru1 .nil)) (Sp1.sz (by simp))
    obtain ⟨he2,h12,_⟩ := st2
    refine ⟨.ref T,upd H T (.tup [.int (i : Int),x]),J3,rfl,⟨T,x,rfl,nT,rfl,fun as qa => ?_⟩,⟨he2,h12⟩,fun b hb => ?_⟩
    · rw [I.list_inj qa q1]
      exact hx
    · have hb' : ∃ o,s.heap.get? b = some o := by
        obtain ⟨old,he⟩ := he
        obtain ⟨o1,e1,_⟩ := h1
        simp only [List.mem_cons,List.not_mem_nil,or_false] at hb
        rcases hb with rfl | rfl
        · exact ⟨_,he⟩
        · exact ⟨_,e1⟩
      obtain ⟨o,eo⟩ := hb'
      rw [upd_ne (Nat.ne_of_lt (Nat.lt_of_lt_of_le (Heap.lt_size eo) hT))]
      exact (hf b hb).1
  done := by
    intro X hP hw hK hc i pins s σ H E I hf st hg
    subst hP hw hK
    obtain ⟨xs,q1,rfl⟩ := hg
    obtain ⟨its,r1,p1,_⟩ := I.list q1
    have W := WalksT.enumerate (prog := X.prog) (w := X.w) (I.ok.hd hc) e it l hei hle hli its.toArray
    obtain ⟨he,h1⟩ := st
    refine W.done s _ E ?_ fun h' tk kk => ⟨rfl,I.turnedL (t' := tk) kk fun b hb => hf b (by simpa using hb)⟩
    rw [List.size_toArray,← r1.length]
    exact ⟨he,h1,p1.isList⟩
  self := fun _ _ _ _ _ st h => by
    obtain ⟨⟨old,he⟩,_⟩ := st
    exact wpAny_pyIter_enum he h
section
variable {X : Cx} {elts : List Expr} {kt : Nat} {tpos : Pos}
def iZip (K : PySem.W.Frag) (ta : TA) : TI := fun σ H R => ta σ H fun vs H1 => ∃ a b,vs = [.ref a,.ref b] ∧ (∃ xs,SqL K H1 a xs) ∧ (∃ ys,SqL K H1 b ys) ∧ R (Itz K a b) H1
def iEnum (K : PySem.W.Frag) (ta : TA) : TI := fun σ H R => ta σ H fun vs H1 => ∃ a,vs = [.ref a] ∧ (∃ xs,SqL K H1 a xs) ∧ R (Ite K a) H1
theorem bt_zip : bootBuiltins "zip" = some (.type "zip") := by decide +kernel
theorem bt_enumerate : bootBuiltins "enumerate" = some (.type "enumerate") := by decide +kernel
theorem pi_zip {a b : Expr} {ta : TA} {p pos : Pos} (hg : Gl X "zip") (hm : X.mg "zip" = none) (ha : PA X [a,b] ta) (hs : starEach [a,b] X.env = [(false,eval a X.env),(false,eval b X.env)] := by rfl) (hs2 : starEach [b] X.env = [(false,eval b X.env)] := by rfl) :
    PI X (.Tuple elts kt tpos) (.Call (.Name "zip" p) [a,b] [] pos) (iZip X.K ta) := by
  intro pins s σ H R I h
  refine Call_ (ld_blt I hg hm bt_zip (PyProof.Rows.callWith_type1 (thn (ha pos pins s σ H _ I h) fun us s1 ⟨vs,H1,I1,r1,q1⟩ => ?_) (by rw [hs,hs2]) (by rw [hs2]; rfl)))
  obtain ⟨l1,l2,e,⟨xs,hx⟩,⟨ys,hy⟩,q⟩ := q1
  subst e
  cases r1 with
  | cons r rr =>
    cases rr with
    | cons r' rr =>
      cases rr
      cases r
      cases r'
      obtain ⟨its,_,p1,_⟩ := I1.list hx
      obtain ⟨jts,_,p2,_⟩ := I1.list hy
      refine call_zip_2 p1.isList p2.isList fun h' hz hTI hTO hi1 hi2 hsz hk => ?_
      refine wpAny_pyIter_zip hz ?_
      have a1 : l1 < s1.heap.objs.size := by obtain ⟨_,e,_⟩ := p1.isList; exact Heap.lt_size e
      have a2 : l2 < s1.heap.objs.size := by obtain ⟨_,e,_⟩ := p2.isList; exact Heap.lt_size e
      refine ⟨s1.heap.objs.size + 4,[s1.heap.objs.size + 4,s1.heap.objs.size + 2,s1.heap.objs.size + 3,s1.heap.objs.size,s1.heap.objs.size + 1],_,_,H1,rfl,I1.kept (t' := s1.toks) hk,turn_zip _ _ _ _ _ l1 l2 (zipApart_new a1 a2),⟨hz,hTI,⟨_,_,hTO⟩,hi1,hi2⟩,fun b hb => ?_,q⟩
      have hb' : s1.heap.objs.size ≤ b := by
        simp only [List.mem_cons,List.not_mem_nil,or_false] at hb
        rcases hb with rfl | rfl | rfl | rfl | rfl <;> omega
      exact I1.fpOk hb' (I1.hok.fresh hb')
theorem pi_enum {a : Expr} {ta : TA} {p pos : Pos} (hg : Gl X "enumerate") (hm : X.mg "enumerate" = none) (ha : PA X [a] ta) (hs : starEach [a] X.env = [(false,eval a X.env)] := by rfl) :
    PI X (.Tuple elts kt tpos) (.Call (.Name "enumerate" p) [a] [] pos) (iEnum X.K ta) := by
  intro pins s σ H R I h
  refine Call_ (ld_blt I hg hm bt_enumerate (PyProof.Rows.callWith_type1 (thn (ha pos pins s σ H _ I h) fun us s1 ⟨vs,H1,I1,r1,q1⟩ => ?_) hs rfl))
  obtain ⟨l,e,⟨xs,hx⟩,q⟩ := q1
  subst e
  cases r1 with
  | cons r rr =>
    cases rr
    cases r
    obtain ⟨its,_,p1,_⟩ := I1.list hx
    refine call_enumerate_list p1.isList fun h' he hi hsz hk => ?_
    refine wpAny_pyIter_enum he ?_
    have a1 : l < s1.heap.objs.size := by obtain ⟨_,e,_⟩ := p1.isList; exact Heap.lt_size e
    refine ⟨s1.heap.objs.size + 1,[s1.heap.objs.size + 1,s1.heap.objs.size],_,_,H1,rfl,I1.kept (t' := s1.toks) hk,turn_enum _ _ l (Nat.succ_ne_self _) (Nat.ne_of_lt (Nat.lt_succ_of_lt a1)) (Nat.ne_of_lt a1),⟨⟨_,he⟩,hi⟩,fun b hb => ?_,q⟩
    have hb' : s1.heap.objs.size ≤ b := by
      simp only [List.mem_cons,List.not_mem_nil,or_false] at hb
      rcases hb with rfl | rfl <;> omega
    exact I1.fpOk hb' (I1.hok.fresh hb')
end
theorem for_enum {K : PySem.W.Frag} {a : Addr} {xs : List V} {g : TG} {tb : TS} {D : Ends} {σ : St} {H : Hp} (Pv : Nat → St → Hp → Prop) (h0 : Pv 0 σ H) (hl : ∀ i σ H,i ≤ xs.length → Pv i σ H → SqL K H a xs)
    (hs : ∀ i x p σ H H1,xs[i]? = some x → Pv i σ H → Same H H1 → H1 p = some (.tup [.int (i : Int),x]) → g (.ref p) σ H1 fun σ2 H2 => tb { D with nx := Pv (i + 1),ct := Pv (i + 1),bk := D.nx } σ2 H2) (hd : ∀ σ H,Pv xs.length σ H → D.nx σ H) :
    ∃ W : Nat → Nat → St → Hp → Prop,(∃ m,W 0 m σ H) ∧ ∀ i m σ H,W i m σ H →
      ((Ite K a).stop i H ∧ D.nx σ H) ∨ ((Ite K a).go i H ∧ ∃ N : St → Hp → Prop,(∀ σ' H',N σ' H' → ∃ m',m' < m ∧ W (i + 1) m' σ' H') ∧ ∀ x H',(Ite K a).yld i H x H' → g x σ H' fun σ2 H2 => tb { D with nx := N,ct := N,bk := D.nx } σ2 H2) := by
  refine ⟨fun i m σ H => m = xs.length - i ∧ i ≤ xs.length ∧ Pv i σ H,⟨_,rfl,Nat.zero_le _,h0⟩,?_⟩
  rintro i m σ H ⟨rfl,hi,p⟩
  have q1 := hl i σ H hi p
  by_cases hlt : i < xs.length
  · refine .inr ⟨⟨xs,xs[i],q1,by simp [hlt]⟩,Pv (i + 1),fun σ' H' p' => ⟨_,by omega,rfl,hlt,p'⟩,fun v H' y => ?_⟩
    obtain ⟨t,x,rfl,nt,rfl,e⟩ := y
    exact hs i x t σ H _ (e xs q1) p (Same.new nt) upd_same
  · have e : i = xs.length := by omega
    subst e
    exact .inl ⟨⟨xs,q1,rfl⟩,hd σ H p⟩
end L2
namespace L2
open PySem PySem.Spec PyProof.Rows
inductive D where
  | non | bl (b : Bool) | int (i : Int) | str (x : Str) | tup (ds : List D) | lst (ds : List D)
inductive Rp (H : Hp) : Nat → V → D → Prop where
  | non {n : Nat} : Rp H n .non .non
  | bl {n : Nat} {b : Bool} : Rp H n (.bl b) (.bl b)
  | int {n : Nat} {i : Int} : Rp H n (.int i) (.int i)
  | str {n : Nat} {x : Str} : Rp H n (.str x) (.str x)
  | tup {n : Nat} {p : Addr} {xs : List V} {ds : List D} (e : H p = some (.tup xs)) (hl : xs.length = ds.length) (h : ∀ (j : Nat) x d,xs[j]? = some x → ds[j]? = some d → Rp H n x d) : Rp H (n + 1) (.ref p) (.tup ds)
  | lst {n : Nat} {p : Addr} {xs : List V} {ds : List D} (e : H p = some (.lst xs)) (hl : xs.length = ds.length) (h : ∀ (j : Nat) x d,xs[j]? = some x → ds[j]? = some d → Rp H n x d) : Rp H (n + 1) (.ref p) (.lst ds)
mutual
def deq : D → D → Bool
  | .non,.non => true
  | .bl a,.bl b => a == b
  | .bl a,.int b => (if a then 1 else 0) == b
  | .int a,.bl b => a == (if b then 1 else 0)
  | .int a,.int b => a == b
  | .str a,.str b => a == b
  | .tup xs,.tup ys => deqs xs ys
  | .lst xs,.lst ys => deqs xs ys
  | _,_ => false
def deqs : List D → List D → Bool
  | [],[] => true
  | x :: xs,y :: ys => deq x y && deqs xs ys
  | _,_ => false
end
theorem deqs_all : ∀ (ds es : List D),((List.range (min ds.length es.length)).all (fun j => deq (ds.getD j .non) (es.getD j .non)) && ds.length == es.length) = deqs ds es
  | [],[] => by simp [deqs]
  | [],e :: es => by simp [deqs]
  | d :: ds,[] => by simp [deqs]
  | d :: ds,e :: es => by
    have ih := deqs_all ds es
    have hm : min (d :: ds).length (e :: es).length = min ds.length es.length + 1 := by simp only [List.length_cons]; omega
    rw [hm,List.range_succ_eq_map,List.all_cons,List.all_map]
    simp only [deqs,List.getD_cons_zero,List.length_cons]
    rw [← ih,Bool.and_assoc]
    congr 1
    simp [Function.comp_def]
theorem deqs_len {ds es : List D} (h : ds.length ≠ es.length) : deqs ds es = false := by
  rw [← deqs_all]
  simp [h]
theorem deqs_all' {ds es : List D} (h : ds.length = es.length) : (List.range ds.length).all (fun j => deq (ds.getD j .non) (es.getD j .non)) = deqs ds es := by
  rw [← deqs_all,h]
  simp
theorem deqs_of {ds es : List D} (hl : ds.length = es.length) (h : ∀ (j : Nat) d e,ds[j]? = some d → es[j]? = some e → deq d e = true) : deqs ds es = true := by
  rw [← deqs_all' hl,List.all_eq_true]
  intro j hj
  have hj' : j < ds.length := List.mem_range.mp hj
  have hj2 : j < es.length := by omega
  have e1 : ds[j]? = some ds[j] := List.getElem?_eq_getElem hj'
  have e2 : es[j]? = some es[j] := List.getElem?_eq_getElem hj2
  rw [List.getD_eq_getElem?_getD,List.getD_eq_getElem?_getD,e1,e2]
  exact h j _ _ e1 e2
theorem get_of_len {α β : Type} {xs : List α} {ds : List β} {j : Nat} {d : β} (hl : xs.length = ds.length) (h : ds[j]? = some d) : ∃ x,xs[j]? = some x := by
  have := (List.getElem?_eq_some_iff.mp h).1
  exact ⟨xs[j],List.getElem?_eq_getElem (by omega)⟩
theorem Rp.self {H : Hp} {n m : Nat} {v : V} {d e : D} (r : Rp H n v d) (q : Rp H m v e) : deq d e = true := by
  induction r generalizing m e with
  | non => cases q; rfl
  | bl => cases q; simp [deq]
  | int => cases q; simp [deq]
  | str => cases q; simp [deq]
  | tup e1 hl h ih =>
    cases q with
    | tup e2 hl2 h2 =>
      rw [e1] at e2
      cases e2
      refine deqs_of (by omega) fun j a b ea eb => ?_
      obtain ⟨x,hx⟩ := get_of_len hl ea
      exact ih j x a hx ea (h2 j x b hx eb)
    | lst e2 hl2 h2 => rw [e1] at e2; cases e2
  | lst e1 hl h ih =>
    cases q with
    | tup e2 hl2 h2 => rw [e1] at e2; cases e2
    | lst e2 hl2 h2 =>
      rw [e1] at e2
      cases e2
      refine deqs_of (by omega) fun j a b ea eb => ?_
      obtain ⟨x,hx⟩ := get_of_len hl ea
      exact ih j x a hx ea (h2 j x b hx eb)
section
variable {X : Cx} {pins : List (Addr × Obj)} {σ : St} {H : Hp} {s : Shared}
theorem elts_at {A : Around} {xs ys : List V} {us ws : List Value} {ds es : List D} (r : Vals xs us) (r' : Vals ys ws) (hl : xs.length = ds.length) (hl' : ys.length = es.length)
    (h : ∀ (j : Nat) x y d e u w,xs[j]? = some x → ys[j]? = some y → ds[j]? = some d → es[j]? = some e → RelV x u → RelV y w → SeqAt.EqAt A s u w (deq d e))
    (j : Nat) (h1 : j < us.toArray.size) (h2 : j < ws.toArray.size) : SeqAt.EqAt A s us.toArray[j] ws.toArray[j] (deq (ds.getD j .non) (es.getD j .non)) := by
  rw [List.size_toArray] at h1 h2
  obtain ⟨a,ea,ra⟩ := val_get r h1
  obtain ⟨c,ec,rc⟩ := val_get r' h2
  have g1 := (List.getElem?_eq_some_iff.mp ea).1
  have g2 := (List.getElem?_eq_some_iff.mp ec).1
  have e1 : ds[j]? = some ds[j] := List.getElem?_eq_getElem (by omega)
  have e2 : es[j]? = some es[j] := List.getElem?_eq_getElem (by omega)
  rw [List.getD_eq_getElem?_getD,List.getD_eq_getElem?_getD,e1,e2]
  exact h j a c _ _ _ _ ea ec e1 e2 ra rc
theorem Rp.eqAt {n : Nat} {x : V} {d : D} (r : Rp H n x d) : ∀ {m : Nat} {y : V} {e : D} {A : Around} {u v : Value},Rp H m y e → Inv X pins σ H s → RelV x u → RelV y v → A.units + n < cLine → SeqAt.EqAt A s u v (deq d e) := by
  induction r with
  | non =>
    intro m y e A u v q I ru rv hu
    cases ru
    cases q with
    | non => cases rv; exact SeqAt.EqAt.same _
    | bl => cases rv; exact SeqAt.EqAt.none_bool _
    | int => obtain ⟨_,rfl⟩ := rv; exact SeqAt.EqAt.none_int _ _
    | str => obtain ⟨_,rfl⟩ := rv; exact SeqAt.EqAt.none_str _ _
    | tup e1 hl h => cases rv; obtain ⟨its,_,pl,_⟩ := I.tuple (SqT.of e1); exact SeqAt.EqAt.none_tuple pl (by omega)
    | lst e1 hl h => cases rv; obtain ⟨its,_,pl,_⟩ := I.list (SqL.of e1); exact SeqAt.EqAt.none_list pl.isList (by omega)
  | bl =>
    intro m y e A u v q I ru rv hu
    cases ru
    cases q with
    | non => cases rv; exact SeqAt.EqAt.bool_none _
    | bl => cases rv; exact SeqAt.EqAt.bool_bool _ _
    | int => obtain ⟨_,rfl⟩ := rv; exact SeqAt.EqAt.bool_int _ _ _
    | str => obtain ⟨_,rfl⟩ := rv; exact SeqAt.EqAt.bool_str _ _ _
    | tup e1 hl h => cases rv; obtain ⟨its,_,pl,_⟩ := I.tuple (SqT.of e1); exact SeqAt.EqAt.bool_tuple _ pl (by omega)
    | lst e1 hl h => cases rv; obtain ⟨its,_,pl,_⟩ := I.list (SqL.of e1); exact SeqAt.EqAt.bool_list _ pl.isList (by omega)
  | int =>
    intro m y e A u v q I ru rv hu
    obtain ⟨_,rfl⟩ := ru
    cases q with
    | non => cases rv; exact SeqAt.EqAt.int_none _ _
    | bl => cases rv; exact SeqAt.EqAt.int_bool _ _ _
    | int => obtain ⟨_,rfl⟩ := rv; exact SeqAt.EqAt.int_int _ _ _ _
    | str => obtain ⟨_,rfl⟩ := rv; exact SeqAt.EqAt.int_str _ _ _ _
    | tup e1 hl h => cases rv; obtain ⟨its,_,pl,_⟩ := I.tuple (SqT.of e1); exact SeqAt.EqAt.int_tuple _ _ pl (by omega)
    | lst e1 hl h => cases rv; obtain ⟨its,_,pl,_⟩ := I.list (SqL.of e1); exact SeqAt.EqAt.int_list _ _ pl.isList (by omega)
  | str =>
    intro m y e A u v q I ru rv hu
    obtain ⟨_,rfl⟩ := ru
    cases q with
    | non => cases rv; exact SeqAt.EqAt.str_none _ _
    | bl => cases rv; exact SeqAt.EqAt.str_bool _ _ _
    | int => obtain ⟨_,rfl⟩ := rv; exact SeqAt.EqAt.str_int _ _ _ _
    | str => obtain ⟨_,rfl⟩ := rv; exact SeqAt.EqAt.str_str _ _ _ _
    | tup e1 hl h => cases rv; obtain ⟨its,_,pl,_⟩ := I.tuple (SqT.of e1); exact SeqAt.EqAt.str_tuple _ _ pl (by omega)
    | lst e1 hl h => cases rv; obtain ⟨its,_,pl,_⟩ := I.list (SqL.of e1); exact SeqAt.EqAt.str_list _ _ pl.isList (by omega)
  | @tup n p xs ds e0 hl h ih =>
    intro m y e A u v q I ru rv hu
    cases ru
    obtain ⟨its,r1,pl,_⟩ := I.tuple (SqT.of e0)
    cases q with
    | non => cases rv; exact SeqAt.EqAt.tuple_none pl (by omega)
    | bl => cases rv; exact SeqAt.EqAt.tuple_bool _ pl (by omega)
    | int => obtain ⟨_,rfl⟩ := rv; exact SeqAt.EqAt.tuple_int _ _ pl (by omega)
    | str => obtain ⟨_,rfl⟩ := rv; exact SeqAt.EqAt.tuple_str _ _ pl (by omega)
    | lst e1 hl1 h1 => cases rv; obtain ⟨jts,_,pl',_⟩ := I.list (SqL.of e1); exact SeqAt.EqAt.tuple_list pl pl'.isList (by omega)
    | @tup m p' ys es e1 hl1 h1 =>
      cases rv
      by_cases hne : p = p'
      · subst hne
        have z : deq (.tup ds) (.tup es) = true := Rp.self (Rp.tup e0 hl h) (Rp.tup e1 hl1 h1)
        rw [z]
        exact SeqAt.EqAt.same _
      · obtain ⟨jts,r2,pl',_⟩ := I.tuple (SqT.of e1)
        have y := SeqAt.RcAt.tuples (A := A) (e := fun j => deq (ds.getD j .non) (es.getD j .non)) pl pl' (by omega) (elts_at r1 r2 hl hl1 fun j x y d e u w a b c k ra rb => ih j x d a c (h1 j y e b k) I ra rb (by show A.units + 1 + n < cLine; omega))
        rw [List.size_toArray,List.size_toArray,← r1.length,← r2.length,hl,hl1,deqs_all] at y
        exact SeqAt.EqAt.of_refs hne y
  | @lst n p xs ds e0 hl h ih =>
    intro m y e A u v q I ru rv hu
    cases ru
    obtain ⟨its,r1,pl,_⟩ := I.list (SqL.of e0)
    cases q with
    | non => cases rv; exact SeqAt.EqAt.list_none pl.isList (by omega)
    | bl => cases rv; exact SeqAt.EqAt.list_bool _ pl.isList (by omega)
    | int => obtain ⟨_,rfl⟩ := rv; exact SeqAt.EqAt.list_int _ _ pl.isList (by omega)
    | str => obtain ⟨_,rfl⟩ := rv; exact SeqAt.EqAt.list_str _ _ pl.isList (by omega)
    | tup e1 hl1 h1 => cases rv; obtain ⟨jts,_,pl',_⟩ := I.tuple (SqT.of e1); exact SeqAt.EqAt.list_tuple pl.isList pl' (by omega)
    | @lst m p' ys es e1 hl1 h1 =>
      cases rv
      by_cases hne : p = p'
      · subst hne
        have z : deq (.lst ds) (.lst es) = true := Rp.self (Rp.lst e0 hl h) (Rp.lst e1 hl1 h1)
        rw [z]
        exact SeqAt.EqAt.same _
      · obtain ⟨jts,r2,pl',_⟩ := I.list (SqL.of e1)
        have g1 := r1.length
        have g2 := r2.length
        by_cases hz : ds.length = es.length
        · have y := SeqAt.RcAt.lists (A := A) (e := fun j => deq (ds.getD j .non) (es.getD j .non)) pl.isList pl'.isList (by rw [List.size_toArray,List.size_toArray]; omega) (by omega) (elts_at r1 r2 hl hl1 fun j x y d e u w a b c k ra rb => ih j x d a c (h1 j y e b k) I ra rb (by show A.units + 1 + n < cLine; omega))
          rw [List.size_toArray,← r1.length,hl,deqs_all' hz] at y
          exact SeqAt.EqAt.of_refs hne y
        · rw [show deq (.lst ds) (.lst es) = false from deqs_len hz]
          exact SeqAt.EqAt.of_refs hne (SeqAt.RcAt.lists_lengths pl.isList pl'.isList (by rw [List.size_toArray,List.size_toArray]; simp; omega) (by omega))
end
end L2
namespace L2
open PySem PySem.Spec PyProof.Rows
section
variable {X : Cx} {pins : List (Addr × Obj)} {σ : St} {H : Hp} {s : Shared}
theorem Rp.rcAt {A : Around} {n m : Nat} {x y : V} {d e : D} {u v : Value} (r : Rp H n x d) (q : Rp H m y e) (I : Inv X pins σ H s) (ru : RelV x u) (rv : RelV y v) (hu : A.units + n + 1 < cLine) : SeqAt.RcAt A s u v (deq d e) := by
  cases r with
  | non =>
    cases q with
    | non =>
      cases ru
      cases rv
      exact SeqAt.RcAt.none_none
    | bl =>
      cases ru
      cases rv
      exact SeqAt.RcAt.none_bool _
    | int =>
      cases ru
      obtain ⟨_,rfl⟩ := rv
      exact SeqAt.RcAt.none_int _ _
    | str =>
      cases ru
      obtain ⟨_,rfl⟩ := rv
      exact SeqAt.RcAt.none_str _ _
    | @tup m p' ys es e1 hl1 h1 =>
      cases ru
      cases rv
      obtain ⟨jts,r2,pl',_⟩ := I.tuple (SqT.of e1)
      exact SeqAt.RcAt.none_tuple pl' (by omega)
    | @lst m p' ys es e1 hl1 h1 =>
      cases ru
      cases rv
      obtain ⟨jts,r2,pl',_⟩ := I.list (SqL.of e1)
      exact SeqAt.RcAt.none_list pl'.isList (by omega)
  | bl =>
    cases q with
    | non =>
      cases ru
      cases rv
      exact SeqAt.RcAt.bool_none _
    | bl =>
      cases ru
      cases rv
      exact SeqAt.RcAt.bool_bool _ _
    | int =>
      cases ru
      obtain ⟨_,rfl⟩ := rv
      exact SeqAt.RcAt.bool_int _ _ _
    | str =>
      cases ru
      obtain ⟨_,rfl⟩ := rv
      exact SeqAt.RcAt.bool_str _ _ _
    | @tup m p' ys es e1 hl1 h1 =>
      cases ru
      cases rv
      obtain ⟨jts,r2,pl',_⟩ := I.tuple (SqT.of e1)
      exact SeqAt.RcAt.bool_tuple _ pl' (by omega)
    | @lst m p' ys es e1 hl1 h1 =>
      cases ru
      cases rv
      obtain ⟨jts,r2,pl',_⟩ := I.list (SqL.of e1)
      exact SeqAt.RcAt.bool_list _ pl'.isList (by omega)
  | int =>
    cases q with
    | non =>
      obtain ⟨_,rfl⟩ := ru
      cases rv
      exact SeqAt.RcAt.int_none _ _
    | bl =>
      obtain ⟨_,rfl⟩ := ru
      cases rv
      exact SeqAt.RcAt.int_bool _ _ _
    | int =>
      obtain ⟨_,rfl⟩ := ru
      obtain ⟨_,rfl⟩ := rv
      exact SeqAt.RcAt.int_int _ _ _ _
    | str =>
      obtain ⟨_,rfl⟩ := ru
      obtain ⟨_,rfl⟩ := rv
      exact SeqAt.RcAt.int_str _ _ _ _
    | @tup m p' ys es e1 hl1 h1 =>
      obtain ⟨_,rfl⟩ := ru
      cases rv
      obtain ⟨jts,r2,pl',_⟩ := I.tuple (SqT.of e1)
      exact SeqAt.RcAt.int_tuple _ _ pl' (by omega)
    | @lst m p' ys es e1 hl1 h1 =>
      obtain ⟨_,rfl⟩ := ru
      cases rv
      obtain ⟨jts,r2,pl',_⟩ := I.list (SqL.of e1)
      exact SeqAt.RcAt.int_list _ _ pl'.isList (by omega)
  | str =>
    cases q with
    | non =>
      obtain ⟨_,rfl⟩ := ru
      cases rv
      exact SeqAt.RcAt.str_none _ _
    | bl =>
      obtain ⟨_,rfl⟩ := ru
      cases rv
      exact SeqAt.RcAt.str_bool _ _ _
    | int =>
      obtain ⟨_,rfl⟩ := ru
      obtain ⟨_,rfl⟩ := rv
      exact SeqAt.RcAt.str_int _ _ _ _
    | str =>
      obtain ⟨_,rfl⟩ := ru
      obtain ⟨_,rfl⟩ := rv
      exact SeqAt.RcAt.str_str _ _ _ _
    | @tup m p' ys es e1 hl1 h1 =>
      obtain ⟨_,rfl⟩ := ru
      cases rv
      obtain ⟨jts,r2,pl',_⟩ := I.tuple (SqT.of e1)
      exact SeqAt.RcAt.str_tuple _ _ pl' (by omega)
    | @lst m p' ys es e1 hl1 h1 =>
      obtain ⟨_,rfl⟩ := ru
      cases rv
      obtain ⟨jts,r2,pl',_⟩ := I.list (SqL.of e1)
      exact SeqAt.RcAt.str_list _ _ pl'.isList (by omega)
  | @tup n p xs ds e0 hl h =>
    cases q with
    | non =>
      cases ru
      cases rv
      obtain ⟨its,r1,pl,_⟩ := I.tuple (SqT.of e0)
      exact SeqAt.RcAt.tuple_none pl (by omega)
    | bl =>
      cases ru
      cases rv
      obtain ⟨its,r1,pl,_⟩ := I.tuple (SqT.of e0)
      exact SeqAt.RcAt.tuple_bool _ pl (by omega)
    | int =>
      cases ru
      obtain ⟨_,rfl⟩ := rv
      obtain ⟨its,r1,pl,_⟩ := I.tuple (SqT.of e0)
      exact SeqAt.RcAt.tuple_int _ _ pl (by omega)
    | str =>
      cases ru
      obtain ⟨_,rfl⟩ := rv
      obtain ⟨its,r1,pl,_⟩ := I.tuple (SqT.of e0)
      exact SeqAt.RcAt.tuple_str _ _ pl (by omega)
    | @tup m p' ys es e1 hl1 h1 =>
      cases ru
      cases rv
      obtain ⟨its,r1,pl,_⟩ := I.tuple (SqT.of e0)
      obtain ⟨jts,r2,pl',_⟩ := I.tuple (SqT.of e1)
      have y := SeqAt.RcAt.tuples (A := A) (e := fun j => deq (ds.getD j .non) (es.getD j .non)) pl pl' (by omega) (elts_at r1 r2 hl hl1 fun j x y d e u w a b c k ra rb => (h j x d a c).eqAt (h1 j y e b k) I ra rb (by show A.units + 1 + _ < cLine; omega))
      rw [List.size_toArray,List.size_toArray,← r1.length,← r2.length,hl,hl1,deqs_all] at y
      exact y
    | @lst m p' ys es e1 hl1 h1 =>
      cases ru
      cases rv
      obtain ⟨its,r1,pl,_⟩ := I.tuple (SqT.of e0)
      obtain ⟨jts,r2,pl',_⟩ := I.list (SqL.of e1)
      exact SeqAt.RcAt.tuple_list pl pl'.isList (by omega)
  | @lst n p xs ds e0 hl h =>
    cases q with
    | non =>
      cases ru
      cases rv
      obtain ⟨its,r1,pl,_⟩ := I.list (SqL.of e0)
      exact SeqAt.RcAt.list_none pl.isList (by omega)
    | bl =>
      cases ru
      cases rv
      obtain ⟨its,r1,pl,_⟩ := I.list (SqL.of e0)
      exact SeqAt.RcAt.list_bool _ pl.isList (by omega)
    | int =>
      cases ru
      obtain ⟨_,rfl⟩ := rv
      obtain ⟨its,r1,pl,_⟩ := I.list (SqL.of e0)
      exact SeqAt.RcAt.list_int _ _ pl.isList (by omega)
    | str =>
      cases ru
      obtain ⟨_,rfl⟩ := rv
      obtain ⟨its,r1,pl,_⟩ := I.list (SqL.of e0)
      exact SeqAt.RcAt.list_str _ _ pl.isList (by omega)
    | @tup m p' ys es e1 hl1 h1 =>
      cases ru
      cases rv
      obtain ⟨its,r1,pl,_⟩ := I.list (SqL.of e0)
      obtain ⟨jts,r2,pl',_⟩ := I.tuple (SqT.of e1)
      exact SeqAt.RcAt.list_tuple pl.isList pl' (by omega)
    | @lst m p' ys es e1 hl1 h1 =>
      cases ru
      cases rv
      obtain ⟨its,r1,pl,_⟩ := I.list (SqL.of e0)
      obtain ⟨jts,r2,pl',_⟩ := I.list (SqL.of e1)
      have g1 := r1.length
      have g2 := r2.length
      by_cases hz : ds.length = es.length
      · have y := SeqAt.RcAt.lists (A := A) (e := fun j => deq (ds.getD j .non) (es.getD j .non)) pl.isList pl'.isList (by rw [List.size_toArray,List.size_toArray]; omega) (by omega) (elts_at r1 r2 hl hl1 fun j x y d e u w a b c k ra rb => (h j x d a c).eqAt (h1 j y e b k) I ra rb (by show A.units + 1 + _ < cLine; omega))
        rw [List.size_toArray,← r1.length,hl,deqs_all' hz] at y
        exact y
      · rw [show deq (.lst ds) (.lst es) = false from deqs_len hz]
        exact SeqAt.RcAt.lists_lengths pl.isList pl'.isList (by rw [List.size_toArray,List.size_toArray]; simp; omega) (by omega)
theorem Rp.rcNeAt {A : Around} {n m : Nat} {x y : V} {d e : D} {u v : Value} (r : Rp H n x d) (q : Rp H m y e) (I : Inv X pins σ H s) (ru : RelV x u) (rv : RelV y v) (hu : A.units + n + 1 < cLine) : SeqAt.RcNeAt A s u v (!(deq d e)) := by
  cases r with
  | non =>
    cases q with
    | non =>
      cases ru
      cases rv
      exact SeqAt.RcNeAt.none_none
    | bl =>
      cases ru
      cases rv
      exact SeqAt.RcNeAt.none_bool _
    | int =>
      cases ru
      obtain ⟨_,rfl⟩ := rv
      exact SeqAt.RcNeAt.none_int _ _
    | str =>
      cases ru
      obtain ⟨_,rfl⟩ := rv
      exact SeqAt.RcNeAt.none_str _ _
    | @tup m p' ys es e1 hl1 h1 =>
      cases ru
      cases rv
      obtain ⟨jts,r2,pl',_⟩ := I.tuple (SqT.of e1)
      exact SeqAt.RcNeAt.none_tuple pl' (by omega)
    | @lst m p' ys es e1 hl1 h1 =>
      cases ru
      cases rv
      obtain ⟨jts,r2,pl',_⟩ := I.list (SqL.of e1)
      exact SeqAt.RcNeAt.none_list pl'.isList (by omega)
  | bl =>
    cases q with
    | non =>
      cases ru
      cases rv
      exact SeqAt.RcNeAt.bool_none _
    | bl =>
      cases ru
      cases rv
      exact SeqAt.RcNeAt.bool_bool _ _
    | int =>
      cases ru
      obtain ⟨_,rfl⟩ := rv
      exact SeqAt.RcNeAt.bool_int _ _ _
    | str =>
      cases ru
      obtain ⟨_,rfl⟩ := rv
      exact SeqAt.RcNeAt.bool_str _ _ _
    | @tup m p' ys es e1 hl1 h1 =>
      cases ru
      cases rv
      obtain ⟨jts,r2,pl',_⟩ := I.tuple (SqT.of e1)
      exact SeqAt.RcNeAt.bool_tuple _ pl' (by omega)
    | @lst m p' ys es e1 hl1 h1 =>
      cases ru
      cases rv
      obtain ⟨jts,r2,pl',_⟩ := I.list (SqL.of e1)
      exact SeqAt.RcNeAt.bool_list _ pl'.isList (by omega)
  | int =>
    cases q with
    | non =>
      obtain ⟨_,rfl⟩ := ru
      cases rv
      exact SeqAt.RcNeAt.int_none _ _
    | bl =>
      obtain ⟨_,rfl⟩ := ru
      cases rv
      exact SeqAt.RcNeAt.int_bool _ _ _
    | int =>
      obtain ⟨_,rfl⟩ := ru
      obtain ⟨_,rfl⟩ := rv
      exact SeqAt.RcNeAt.int_int _ _ _ _
    | str =>
      obtain ⟨_,rfl⟩ := ru
      obtain ⟨_,rfl⟩ := rv
      exact SeqAt.RcNeAt.int_str _ _ _ _
    | @tup m p' ys es e1 hl1 h1 =>
      obtain ⟨_,rfl⟩ := ru
      cases rv
      obtain ⟨jts,r2,pl',_⟩ := I.tuple (SqT.of e1)
      exact SeqAt.RcNeAt.int_tuple _ _ pl' (by omega)
    | @lst m p' ys es e1 hl1 h1 =>
      obtain ⟨_,rfl⟩ := ru
      cases rv
      obtain ⟨jts,r2,pl',_⟩ := I.list (SqL.of e1)
      exact SeqAt.RcNeAt.int_list _ _ pl'.isList (by omega)
  | str =>
    cases q with
    | non =>
      obtain ⟨_,rfl⟩ := ru
      cases rv
      exact SeqAt.RcNeAt.str_none _ _
    | bl =>
      obtain ⟨_,rfl⟩ := ru
      cases rv
      exact SeqAt.RcNeAt.str_bool _ _ _
    | int =>
      obtain ⟨_,rfl⟩ := ru
      obtain ⟨_,rfl⟩ := rv
      exact SeqAt.RcNeAt.str_int _ _ _ _
    | str =>
      obtain ⟨_,rfl⟩ := ru
      obtain ⟨_,rfl⟩ := rv
      exact SeqAt.RcNeAt.str_str _ _ _ _
    | @tup m p' ys es e1 hl1 h1 =>
      obtain ⟨_,rfl⟩ := ru
      cases rv
      obtain ⟨jts,r2,pl',_⟩ := I.tuple (SqT.of e1)
      exact SeqAt.RcNeAt.str_tuple _ _ pl' (by omega)
    | @lst m p' ys es e1 hl1 h1 =>
      obtain ⟨_,rfl⟩ := ru
      cases rv
      obtain ⟨jts,r2,pl',_⟩ := I.list (SqL.of e1)
      exact SeqAt.RcNeAt.str_list _ _ pl'.isList (by omega)
  | @tup n p xs ds e0 hl h =>
    cases q with
    | non =>
      cases ru
      cases rv
      obtain ⟨its,r1,pl,_⟩ := I.tuple (SqT.of e0)
      exact SeqAt.RcNeAt.tuple_none pl (by omega)
    | bl =>
      cases ru
      cases rv
      obtain ⟨its,r1,pl,_⟩ := I.tuple (SqT.of e0)
      exact SeqAt.RcNeAt.tuple_bool _ pl (by omega)
    | int =>
      cases ru
      obtain ⟨_,rfl⟩ := rv
      obtain ⟨its,r1,pl,_⟩ := I.tuple (SqT.of e0)
      exact SeqAt.RcNeAt.tuple_int _ _ pl (by omega)
    | str =>
      cases ru
      obtain ⟨_,rfl⟩ := rv
      obtain ⟨its,r1,pl,_⟩ := I.tuple (SqT.of e0)
      exact SeqAt.RcNeAt.tuple_str _ _ pl (by omega)
    | @tup m p' ys es e1 hl1 h1 =>
      cases ru
      cases rv
      obtain ⟨its,r1,pl,_⟩ := I.tuple (SqT.of e0)
      obtain ⟨jts,r2,pl',_⟩ := I.tuple (SqT.of e1)
      have y := SeqAt.RcNeAt.tuples (A := A) (e := fun j => deq (ds.getD j .non) (es.getD j .non)) pl pl' (by omega) (elts_at r1 r2 hl hl1 fun j x y d e u w a b c k ra rb => (h j x d a c).eqAt (h1 j y e b k) I ra rb (by show A.units + 1 + _ < cLine; omega))
      rw [List.size_toArray,List.size_toArray,← r1.length,← r2.length,hl,hl1,deqs_all] at y
      exact y
    | @lst m p' ys es e1 hl1 h1 =>
      cases ru
      cases rv
      obtain ⟨its,r1,pl,_⟩ := I.tuple (SqT.of e0)
      obtain ⟨jts,r2,pl',_⟩ := I.list (SqL.of e1)
      exact SeqAt.RcNeAt.tuple_list pl pl'.isList (by omega)
  | @lst n p xs ds e0 hl h =>
    cases q with
    | non =>
      cases ru
      cases rv
      obtain ⟨its,r1,pl,_⟩ := I.list (SqL.of e0)
      exact SeqAt.RcNeAt.list_none pl.isList (by omega)
    | bl =>
      cases ru
      cases rv
      obtain ⟨its,r1,pl,_⟩ := I.list (SqL.of e0)
      exact SeqAt.RcNeAt.list_bool _ pl.isList (by omega)
    | int =>
      cases ru
      obtain ⟨_,rfl⟩ := rv
      obtain ⟨its,r1,pl,_⟩ := I.list (SqL.of e0)
      exact SeqAt.RcNeAt.list_int _ _ pl.isList (by omega)
    | str =>
      cases ru
      obtain ⟨_,rfl⟩ := rv
      obtain ⟨its,r1,pl,_⟩ := I.list (SqL.of e0)
      exact SeqAt.RcNeAt.list_str _ _ pl.isList (by omega)
    | @tup m p' ys es e1 hl1 h1 =>
      cases ru
      cases rv
      obtain ⟨its,r1,pl,_⟩ := I.list (SqL.of e0)
      obtain ⟨jts,r2,pl',_⟩ := I.tuple (SqT.of e1)
      exact SeqAt.RcNeAt.list_tuple pl.isList pl' (by omega)
    | @lst m p' ys es e1 hl1 h1 =>
      cases ru
      cases rv
      obtain ⟨its,r1,pl,_⟩ := I.list (SqL.of e0)
      obtain ⟨jts,r2,pl',_⟩ := I.list (SqL.of e1)
      have g1 := r1.length
      have g2 := r2.length
      by_cases hz : ds.length = es.length
      · have y := SeqAt.RcNeAt.lists (A := A) (e := fun j => deq (ds.getD j .non) (es.getD j .non)) pl.isList pl'.isList (by rw [List.size_toArray,List.size_toArray]; omega) (by omega) (elts_at r1 r2 hl hl1 fun j x y d e u w a b c k ra rb => (h j x d a c).eqAt (h1 j y e b k) I ra rb (by show A.units + 1 + _ < cLine; omega))
        rw [List.size_toArray,← r1.length,hl,deqs_all' hz] at y
        exact y
      · rw [show deq (.lst ds) (.lst es) = false from deqs_len hz]
        exact SeqAt.RcNeAt.lists_lengths pl.isList pl'.isList (by rw [List.size_toArray,List.size_toArray]; simp; omega) (by omega)
end
section
variable {X : Cx}
def rEqD (neg : Bool) : R2 := fun x y H Q => ∃ d e,Rp H 9 x d ∧ Rp H 9 y e ∧ Q (.bl (if neg then !(deq d e) else deq d e)) H
theorem op_eqD (hu : X.A.units + 10 < cLine) : OpR X (compareOp .Eq) (rEqD false) := by
  intro pins s σ H x y v u Q I rx ry h
  obtain ⟨d,e,rd,re,k⟩ := h
  exact rd.rcAt re I rx ry (by omega) _ _ _ _ ⟨.bl _,H,I,rfl,k⟩
theorem op_neD (hu : X.A.units + 10 < cLine) : OpR X (compareOp .NotEq) (rEqD true) := by
  intro pins s σ H x y v u Q I rx ry h
  obtain ⟨d,e,rd,re,k⟩ := h
  exact rd.rcNeAt re I rx ry (by omega) _ _ _ _ ⟨.bl _,H,I,rfl,k⟩
end
section
variable {H : Hp} {n : Nat} {p : Addr} {x y z w : V} {a b c d : D}
theorem Rp.t2 (e : H p = some (.tup [x,y])) (ha : Rp H n x a) (hb : Rp H n y b) : Rp H (n + 1) (.ref p) (.tup [a,b]) := .tup e rfl fun j x d h k => by
  match j with
  | 0 => cases h; cases k; exact ha
  | 1 => cases h; cases k; exact hb
  | j + 2 => simp at h
mutual
theorem deq_self : ∀ d : D,deq d d = true
  | .non => rfl
  | .bl b => by simp [deq]
  | .int i => by simp [deq]
  | .str x => by simp [deq]
  | .tup ds => by simp only [deq]; exact deqs_same ds
  | .lst ds => by simp only [deq]; exact deqs_same ds
theorem deqs_same : ∀ ds : List D,deqs ds ds = true
  | [] => by simp [deqs]
  | d :: ds => by simp only [deqs,Bool.and_eq_true]; exact ⟨deq_self d,deqs_same ds⟩
end
end
end L2
namespace L2
open PySem PySem.Spec PyProof.Rows
section
variable {κ : Type} [DecidableEq κ]
def valV (kvs : List (κ × V)) (k : κ) : Option V := (kvs.find? fun kv => decide (kv.1 = k)).map (·.2)
def putK (kvs : List (κ × V)) (k : κ) (v : V) : List (κ × V) :=
  if (kvs.any fun kv => decide (kv.1 = k)) = true then kvs.map (fun kv => if kv.1 = k then (kv.1,v) else kv) else kvs ++ [(k,v)]
theorem valV_pos {p : κ × V} {r : List (κ × V)} {k : κ} (e : p.1 = k) : valV (p :: r) k = some p.2 := by simp [valV,List.find?_cons,e]
theorem valV_neg {p : κ × V} {r : List (κ × V)} {k : κ} (e : ¬ p.1 = k) : valV (p :: r) k = valV r k := by simp [valV,List.find?_cons,e]
theorem valV_any (k : κ) : ∀ kvs : List (κ × V),(kvs.any fun kv => decide (kv.1 = k)) = (valV kvs k).isSome
  | [] => rfl
  | p :: r => by
    rw [List.any_cons]
    by_cases e : p.1 = k
    · simp only [valV_pos e,decide_eq_true e,Bool.true_or,Option.isSome_some]
    · rw [valV_neg e,decide_eq_false e,Bool.false_or]; exact valV_any k r
theorem length_putK (kvs : List (κ × V)) (k : κ) (v : V) : (putK kvs k v).length ≤ kvs.length + 1 := by
  unfold putK
  split
  · rw [List.length_map]; omega
  · rw [List.length_append,List.length_cons,List.length_nil]; omega
theorem RelO.isSome_eq {o : Option V} {u : Option Value} (r : RelO o u) : o.isSome = u.isSome := by
  cases o with
  | none => cases u with
    | none => rfl
    | some _ => exact (show False from r).elim
  | some _ => cases u with
    | none => exact (show False from r).elim
    | some _ => rfl
theorem KV.val {kvs : List (κ × V)} {vs : List (κ × Value)} (r : KV kvs vs) (k : κ) : RelO (valV kvs k) (valueAt vs k) := by
  unfold KV at r
  induction r with
  | nil => exact True.intro
  | @cons p q ps qs h t ih =>
    obtain ⟨h1,h2⟩ := h
    by_cases e : p.1 = k
    · have e' : q.1 = k := h1.symm.trans e
      have b : valueAt (q :: qs) k = some q.2 := by simp [valueAt,List.find?_cons,e']
      rw [valV_pos e,b]; exact h2
    · have e' : ¬ q.1 = k := fun z => e (h1.trans z)
      have b : valueAt (q :: qs) k = valueAt qs k := by simp [valueAt,List.find?_cons,e']
      rw [valV_neg e,b]; exact ih
end
theorem kV_is {P : Program} {w : World} {k : Key} {u : Value} (r : RelV (kV k) u) : (mixKind P w).is k u = true := by
  cases k with
  | inl i => obtain ⟨t,e⟩ := (show ∃ t,u = Value.int i t from r); subst e; exact mixKind_int P w i t
  | inr x => obtain ⟨t,e⟩ := (show ∃ t,u = Value.str x t from r); subst e; exact mixKind_str P w x t
theorem items_are {P : Program} {w : World} : ∀ {ks : List Key} {us : List Value},Vals (ks.map kV) us → ItemsAre (mixKind P w) ks us
  | [],_,r => by rw [List.map_nil] at r; cases r; exact .nil
  | k :: ks,_,r => by
    rw [List.map_cons] at r
    cases r with
    | cons h t => exact .cons (kV_is h) (items_are t)
abbrev KT (H : Hp) : List (List Key × V) → List (List Key × Addr × Value) → Prop := Paired fun p q => p.1 = q.1 ∧ H q.2.1 = some (.tup (p.1.map kV)) ∧ RelV p.2 q.2.2
theorem KT.val {H : Hp} {kvs : List (List Key × V)} {xs : List (List Key × Addr × Value)} (r : KT H kvs xs) (k : List Key) : RelO (valV kvs k) ((atKey xs k).map (·.2)) := by
  induction r with
  | nil => exact True.intro
  | @cons p q ps qs h t ih =>
    obtain ⟨h1,_,h2⟩ := h
    by_cases e : p.1 = k
    · have e' : q.1 = k := h1.symm.trans e
      have b : atKey (q :: qs) k = some q.2 := by simp [atKey,List.find?_cons,e']
      rw [valV_pos e,b]; exact h2
    · have e' : ¬ q.1 = k := fun z => e (h1.trans z)
      have b : atKey (q :: qs) k = atKey qs k := by simp [atKey,List.find?_cons,e']
      rw [valV_neg e,b]; exact ih
theorem KT.repl {H : Hp} {kvs : List (List Key × V)} {xs : List (List Key × Addr × Value)} (r : KT H kvs xs) (k : List Key) {y : V} {u : Value} (ry : RelV y u) :
    KT H (kvs.map fun kv => if kv.1 = k then (kv.1,y) else kv) (xs.map (putAt k u)) := by
  induction r with
  | nil => exact .nil
  | @cons p q ps qs h t ih =>
    rw [List.map_cons,List.map_cons]
    refine .cons ?_ ih
    obtain ⟨h1,h2,h3⟩ := h
    unfold putAt
    by_cases e : p.1 = k
    · rw [if_pos e,if_pos (h1.symm.trans e)]; exact ⟨h1,h2,ry⟩
    · rw [if_neg e,if_neg (fun z => e (h1.trans z))]; exact ⟨h1,h2,h3⟩
theorem KT.put {H : Hp} {kvs : List (List Key × V)} {xs : List (List Key × Addr × Value)} (r : KT H kvs xs) (k : List Key) {b : Addr} {y : V} {u : Value} (hb : H b = some (.tup (k.map kV))) (ry : RelV y u) :
    KT H (putK kvs k y) (storedH xs k b u) := by
  have e : (kvs.any fun kv => decide (kv.1 = k)) = (atKey xs k).isSome := by
    rw [valV_any,(r.val k).isSome_eq,Option.isSome_map]
  unfold putK storedH
  rw [e]
  by_cases q : (atKey xs k).isSome = true
  · rw [if_pos q,if_pos q]; exact r.repl k ry
  · rw [if_neg q,if_neg q]; exact Paired.snoc r ⟨rfl,hb,ry⟩
theorem KT.keeps {H H' : Hp} {kvs : List (List Key × V)} {xs : List (List Key × Addr × Value)} (r : KT H kvs xs) (ht : ∀ b ys,H b = some (.tup ys) → H' b = some (.tup ys)) : KT H' kvs xs :=
  Paired.mapP r fun _ _ z => ⟨z.1,ht _ _ z.2.1,z.2.2⟩
section
variable {P : Program} {w : World} {H : Hp} {h : Heap} {a : Addr}
theorem rd_of {u : HO} (ok : HOk P w H h) (e : Rd H a u) : ObjOk P w H h a u := e.ok ok
theorem dk_rd {kvs : List (Key × V)} (ok : HOk P w H h) (e : Rd H a (.dK kvs)) : kvs.length ≤ sizeLine ∧ (a == sysModules) = false ∧ ∃ vs,KV kvs vs ∧ h.DictOf (mixKind P w) a vs :=
  show ObjOk P w H h a (.dK kvs) from rd_of ok e
theorem key_of {ks : List Key} (ok : HOk P w H h) (e : H a = some (.tup (ks.map kV))) : (tupleKind (mixKind P w)).is h ks a := by
  obtain ⟨_,its,r,o,h1,h2,n,h3⟩ := (show ObjOk P w H h a (.tup (ks.map kV)) from ok a _ e)
  exact ⟨o,its.toArray,n,h1,h2,h3,by simpa using items_are r⟩
theorem dt_rd {kvs : List (List Key × V)} (ok : HOk P w H h) (e : Rd H a (.dT kvs)) : kvs.length ≤ sizeLine ∧ (a == sysModules) = false ∧
    ∃ xs,KT H kvs xs ∧ h.DictOfH (tupleKind (mixKind P w)) a xs := by
  obtain ⟨z,y,xs,r,o,es,ep,h1,h2,h3,h4,h5⟩ := (show ObjOk P w H h a (.dT kvs) from rd_of ok e)
  refine ⟨z,y,xs,r,o,es,ep,h1,h2,h3,h4,fun x hx => ?_,h5⟩
  have all : ∀ {l : List (List Key × V)} {m : List (List Key × Addr × Value)},KT H l m → ∀ x ∈ m,(tupleKind (mixKind P w)).is h x.1 x.2.1 := by
    intro l m q
    induction q with
    | nil => intro x hx; exact nomatch hx
    | @cons p q ps qs hq t ih =>
      intro x hx
      rcases List.mem_cons.mp hx with e | hx
      · subst e
        exact key_of ok (by rw [← hq.1]; exact hq.2.1)
      · exact ih x hx
  exact all r x hx
theorem dt_of {kvs : List (List Key × V)} (ok : HOk P w H h) (e : H a = some (.dT kvs)) : kvs.length ≤ sizeLine ∧ (a == sysModules) = false ∧
    ∃ xs,KT H kvs xs ∧ h.DictOfH (tupleKind (mixKind P w)) a xs := dt_rd ok (.inl e)
end
def DGet (H : Hp) (a : Addr) (y : V) (r : Option V) : Prop :=
  (∃ kvs k,Rd H a (.dK kvs) ∧ y = kV k ∧ r = valV kvs k) ∨ ∃ kvs k b,Rd H a (.dT kvs) ∧ y = .ref b ∧ H b = some (.tup (k.map kV)) ∧ r = valV kvs k
theorem DGet.t {H : Hp} {a b : Addr} {kvs : List (List Key × V)} {k : List Key} (e : H a = some (.dT kvs)) (eb : H b = some (.tup (k.map kV))) : DGet H a (.ref b) (valV kvs k) := .inr ⟨kvs,k,b,.inl e,rfl,eb,rfl⟩
section
variable {X : Cx} {pins : List (Addr × Obj)} {σ : St} {H : Hp} {s : Shared} {a : Addr} {y v : V} {u r : Value} {o : Option V} {A : Around} {E : Value → Shared → Prop}
theorem Inv.big (I : Inv X pins σ H s) : sysModules < s.heap.objs.size := by
  have h : mainGlobals < s.heap.objs.size := (I.mod.glob.keeps I.bk).lt
  exact Nat.lt_trans (by decide) h
theorem d_in {Q : Value → Shared → Prop} (hu : A.units + 1 < cLine) (I : Inv X pins σ H s) (g : DGet H a y o) (ry : RelV y u) (h : ∀ s',Inv X pins σ H s' → Q (.bool o.isSome) s') :
    wpAny (model X.prog X.w) A (compareOp .In u (.ref a)) Q E s := by
  rcases g with ⟨kvs,k,e,ey,l⟩ | ⟨kvs,k,b,e,ey,eb,l⟩
  · subst ey
    obtain ⟨z,hd,vs,rel,dd⟩ := dk_rd I.hok e
    refine wpAny_in_of (kV_is ry) hd dd.mapOf ?_
    rw [← (rel.val k).isSome_eq,← l]
    exact h _ (I.tok _)
  · subst ey
    cases (show u = Value.ref b from ry)
    obtain ⟨z,hd,xs,rel,dd⟩ := dt_rd I.hok e
    refine wpAny_in_heap (tupleKind_room_in1 hu) (key_of I.hok eb) hd dd ?_
    have q := (rel.val k).isSome_eq
    rw [Option.isSome_map] at q
    rw [← q,← l]
    exact h _ (I.tok _)
theorem d_write {h' : Heap} {t' : Nat} {ob : HO} (I : Inv X pins σ H s) (mu : Mut (H a)) (hs : Heap.SameBut a s.heap h') (he : ∃ q,h'.get? a = some q) (new : ObjOk X.prog X.w (upd H a ob) h' a ob) :
    Inv X pins σ (upd H a ob) { s with heap := h',toks := t' } :=
  I.write (x := a) (e := a) mu (.inl rfl) (fun b q hb z => (hs.2 b hb).trans z) he new
end
section
variable {X : Cx} {pins : List (Addr × Obj)} {σ : St} {H : Hp} {s : Shared} {a : Addr} {kvs : List (Key × V)} {k : Key} {u : Value} {A : Around} {E : Value → Shared → Prop}
end
def tDIn (ty td : TE) : TE := fun σ H Q => ty σ H fun y H1 => td σ H1 fun x H2 => ∃ a o,x = .ref a ∧ DGet H2 a y o ∧ Q (.bl o.isSome) H2
section
variable {X : Cx} {o i e value : Expr} {pos pos' tpos : Pos} {td ty tv : TE}
theorem pc_din (hu : X.A.units + 1 < cLine) (hi : PE X i ty) (ho : PE X o td) : PC X .In i o (tDIn ty td) := by
  intro pins s σ H Q I h
  refine thn (hi pins s σ H _ I h) fun iv s1 ⟨y,H1,I1,ry,q1⟩ => thn (ho pins s1 σ H1 _ I1 q1) fun u s2 ⟨x,H2,I2,rx,a,ov,ex,g,q2⟩ => ?_
  subst ex
  obtain rfl : u = Value.ref a := rx
  exact d_in hu I2 g ry fun s3 I3 => ⟨.bl ov.isSome,H2,I3,rfl,q2⟩
end
theorem dt_empty {P : Program} {w : World} {H : Hp} (h : Heap) (hb : sysModules < h.objs.size) : ObjOk P w H (h.push { cls := .type "dict",data := .dict #[] }) h.objs.size (.dT []) :=
  ⟨Nat.zero_le _,beq_eq_false_iff_ne.mpr (Ne.symm (Nat.ne_of_lt hb)),[],.nil,_,#[],0,Heap.get?_push_size _ rfl,⟨rfl,rfl,rfl⟩,rfl,rfl,List.nodup_nil⟩
section
variable {X : Cx} {pos : Pos}
end
section
variable {X : Cx} {pins : List (Addr × Obj)} {σ : St} {H : Hp} {s : Shared} {a : Addr} {y d : V} {u r : Value} {o : Option V} {A : Around} {E : Value → Shared → Prop}
end
section
variable {X : Cx} {o e f : Expr} {apos cpos : Pos} {td ty tx : TE}
end
section
variable {X : Cx} {pins : List (Addr × Obj)} {σ : St} {H : Hp} {s : Shared} {a : Addr} {kvs : List (Key × V)} {A : Around} {E : Value → Shared → Prop}
end
section
variable {X : Cx} {pins : List (Addr × Obj)} {σ : St} {H : Hp} {s : Shared} {a : Addr} {y : V} {u : Value} {A : Around} {E : Value → Shared → Prop}
end
end L2
namespace L2
open PySem PySem.Spec PyProof.Rows
section
variable {prog : Program} {w : World} {A : Around} {E : Value → Shared → Prop} {s : Shared} {it d : Addr} {i ep : Nat} {es : Array DictEntry} {od : Obj}
end
section
variable {X : Cx} {tg : Expr}
end
end L2
namespace PySem
namespace F
theorem dp_keys_none : typeLookup (.type "list") "keys" = pure none := by rw [typeLookup_type,builtinLookup_eq_fast]; kernel_rfl
theorem dp_plain : plainId "dict.update.loop" = true := by decide +kernel
theorem dp_entry : entryFor table "dict.update.loop" = some Builtin.«dict.update.loop» := entryFor_of_fast (by kernel_rfl)
end F
section
variable {prog : Program} {w : World} {A : Around} {E : Value → Shared → Prop}
theorem dp_no_keys {s : Shared} {a : Addr} {o : Obj} {xs : Array Value} {k : Nat} {Q : Option Value → Shared → Prop}
    (hx : s.heap.get? a = some o) (hc : o.cls = .type "list") (hdat : o.data = .seq xs k) (hd : o.dict = none) (hA : A.handled = none)
    (h : ∀ h' tk,(∀ b ob,s.heap.get? b = some ob → h'.get? b = some ob) → Q none { s with heap := h',toks := tk }) : wpAny (model prog w) A (getAttr? (.ref a) "keys") Q E s := by
  obtain ⟨c,dct,dat,sl⟩ := o; simp only at hc hdat hd; subst hc hdat hd; obtain ⟨hp,g,d,tk,os⟩ := s; have hT : ∀ tk',(⟨hp,g,d,tk',os⟩ : Shared).TypeIs (.ref a) "list" := fun _ => ⟨_,hx,rfl⟩; have f1 := sub_AttributeError; have f3 := F.slot_list_getattribute.lookup; have f4 := F.slot_list_getattribute.bind (.ref a); have f5 := am_list_getattr_none; unfold getAttr? getAttrBy? getAttrBy; (repeat (any_goals (first | assumption | exact hT _ | ((with_reducible show wpAny _ _ (call (Value.builtin "list.__getattribute__") _ _) _ _ _); refine call_meets F.slot_list_getattribute (hT _) am_entry_list_getattribute (F.args_list_getattribute_2 _ _) (meets_getattribute_miss_list a xs k sl _ _ F.dp_keys_none (by decide +kernel) (by size_fits)) ⟨hx,hA,fun h' tk' e hx' => ?_⟩) | wp_step))); obtain ⟨t',u',he⟩ := hx'.there; show wpAny _ _ (getattributeRaised _ _ _ _ _ _ _) _ _ _; unfold getattributeRaised; (repeat (any_goals (first | assumption | wp_step)))
  exact h _ _ fun b ob q => hx'.keeps b ob q
end
end PySem
namespace L2
open PySem PySem.Spec PyProof.Rows
abbrev DP := Addr × Addr × List Key × V
def dpPut (kvs : List (List Key × V)) (x : DP) : List (List Key × V) := putK kvs x.2.2.1 x.2.2.2
theorem dp_loop {X : Cx} {pins : List (Addr × Obj)} {σ : St} {l it d : Addr} {all : List DP} {R : Result → Shared → Prop} {A : Around} (hh : A.handled = none) (hu : A.units + 1 < cLine) (hz : all.length ≤ 1000) :
    ∀ (k i : Nat) (s : Shared) (H : Hp) (kvs : List (List Key × V)) (j : Int) (t : Tok),all.length - i = k → i ≤ all.length → Inv X pins σ H s → s.heap.IsListIter it l i → FpOk X pins H it → H l = some (.lst (all.map fun x => V.ref x.1)) → H d = some (.dT kvs) → kvs.length ≤ i →
      (∀ x ∈ all,H x.1 = some (.tup [.ref x.2.1,x.2.2.2]) ∧ H x.2.1 = some (.tup (x.2.2.1.map kV))) →
      (∀ s' H',Inv X pins σ H' s' → (∀ b,b ≠ d → H' b = H b) → H' d = some (.dT ((all.drop i).foldl dpPut kvs)) → R (.ok (.ret .none)) s') →
      codeAny (model X.prog X.w) A (.builtin "dict.update.loop" ⟨[.ref d,.ref it,.int j t,.none],[]⟩) R s := by
  intro k
  induction k with
  | zero =>
    intro i s H kvs j t hk hi I hit fp hl hd hn hx hR
    have e : i = all.length := by omega
    obtain ⟨its,rv,pl,_⟩ := I.list (SqL.of hl)
    have hlen : its.length = all.length := by rw [← rv.length,List.length_map]
    refine codeAny_builtin F.dp_entry ?_
    rw [Around.under_plainId F.dp_plain _]
    show wpAny _ A.in1 (pyNext (.ref it) >>= _) _ _ s
    refine wpAny_bind (wpAny_pyNext_list_end hh hit pl.isList (by rw [List.getElem?_toArray]; exact List.getElem?_eq_none (by omega)) fun h' eb => ?_)
    obtain ⟨f0,f1,f2,f3,f4,f5⟩ := fp
    have I1 : Inv X pins σ H { s with heap := h' } := I.turned (t' := s.toks) (fun b o hb e => eb b o hb e) f0 f1 f3 f4 f5
    show wpAny _ _ (Builtin.Dict.addKeywords d [] >>= _) _ _ _
    refine wpAny_bind (wpAny_pure (wpAny_pure (hR _ H I1 (fun b _ => rfl) ?_)))
    rw [e,List.drop_length]
    exact hd
  | succ k ih =>
    intro i s H kvs j t hk hi I hit fp hl hd hn hx hR
    have lt : i < all.length := by omega
    obtain ⟨its,rv,pl,_⟩ := I.list (SqL.of hl)
    have hlen : its.length = all.length := by rw [← rv.length,List.length_map]
    have hxi : all[i]? = some all[i] := List.getElem?_eq_getElem lt
    have hmem := List.getElem_mem lt
    have hdrop : all.drop i = all[i] :: all.drop (i + 1) := List.drop_eq_getElem_cons lt
    generalize all[i] = x at hxi hmem hdrop
    obtain ⟨u,hu',ru⟩ := rv.get (i := i) (x := V.ref x.1) (by rw [List.getElem?_map,hxi]; rfl)
    cases (show u = Value.ref x.1 from ru)
    obtain ⟨hx1,hx2⟩ := hx x hmem
    refine codeAny_builtin F.dp_entry ?_
    rw [Around.under_plainId F.dp_plain _]
    show wpAny _ A.in1 (pyNext (.ref it) >>= _) _ _ s
    refine wpAny_bind (wpAny_pyNext_list_item hit pl.isList (by rw [List.getElem?_toArray]; exact hu') fun h' hit' sb => ?_)
    obtain ⟨f0,f1,f2,f3,f4,f5⟩ := id fp
    have I1 : Inv X pins σ H { s with heap := h' } := I.turned (t' := s.toks) (fun b o hb e => (sb.2 b hb).trans e) f0 f1 f3 f4 f5
    obtain ⟨ts,rt,pt,_⟩ := I1.tuple (SqT.of hx1)
    obtain ⟨u1,u2,rfl,r1,r2⟩ := vals2 rt
    cases (show u1 = Value.ref x.2.1 from r1)
    obtain ⟨ot,eo,oc,on,od⟩ := pt
    refine wpAny_bind (wpAny_holding ?_)
    refine wpAny_bind (wpAny_tryCatch ?_)
    unfold Builtin.Dict.pairItems
    refine wpAny_bind (wpAny_typeOf (T := "tuple") ⟨_,eo,oc⟩ ?_)
    rw [if_pos (by decide)]
    refine wpAny_bind (wpAny_seqItems eo od (wpAny_pure ?_))
    show wpAny _ _ (holding [Value.ref x.2.1,u2] (dictSet d (.ref x.2.1) u2)) _ _ _
    refine wpAny_holding ?_
    obtain ⟨z,hdm,xs,rel,dd⟩ := dt_of I1.hok hd
    have hzz : xs.length ≤ sizeLine := by rw [← Paired.length rel]; exact z
    have hl2 : (putK kvs x.2.2.1 x.2.2.2).length ≤ sizeLine := Sp1.sz (by have := length_putK kvs x.2.2.1 x.2.2.2; omega)
    refine wpAny_dictSet_heap (hsz := hzz) (tupleKind_room_in1 hu) (key_of I1.hok hx2) dd fun h2 dd' hs => ?_
    obtain ⟨q,es,ep,hq,g2,g3,g4,_,g5⟩ := dd'
    have hne : it ≠ d := fun z => by rw [z] at f0; rw [f0] at hd; cases hd
    have I2 : Inv X pins σ (upd H d (.dT (putK kvs x.2.2.1 x.2.2.2))) { s with heap := h2,toks := s.toks + (tupleKind (mixKind X.prog X.w)).draws x.2.2.1 } := by
      refine d_write (s := { s with heap := h' }) I1 (by rw [hd]; exact True.intro) hs ⟨q,hq⟩ ⟨hl2,hdm,_,(rel.put _ hx2 r2).keeps fun c ys ec => ?_,q,es,ep,hq,g2,g3,g4,g5⟩
      rw [upd_ne (ne_of ec hd (fun z => nomatch z))]
      exact ec
    have keep : ∀ {c : Addr} {o : HO},H c = some o → (∀ w',o ≠ .dT w') → upd H d (.dT (putK kvs x.2.2.1 x.2.2.2)) c = some o := fun {c o} ec n => by
      rw [upd_ne (fun z => by rw [z,hd] at ec; exact n _ (Option.some.inj ec).symm)]
      exact ec
    refine wpAny_pure ⟨plainId_quiet F.dp_plain _,ih (i + 1) _ _ (putK kvs x.2.2.1 x.2.2.2) _ _ (by omega) lt I2 ?_ ?_ (keep hl (fun _ z => nomatch z)) upd_same ?_ (fun y hy => ⟨keep (hx y hy).1 (fun _ z => nomatch z),keep (hx y hy).2 (fun _ z => nomatch z)⟩) fun s' H' I' o' e' => hR s' H' I' (fun b hb => (o' b hb).trans (upd_ne hb)) ?_⟩
    · exact hit'.at fun o e => (hs.2 it hne).trans e
    · exact ⟨by rw [upd_ne hne]; exact f0,f1,f2,f3,f4,f5⟩
    · have := length_putK kvs x.2.2.1 x.2.2.2
      omega
    · rw [hdrop]
      exact e'
def rDP : List V → Hp → VK → Prop := fun xs H Q => ∃ (l : Addr) (all : List DP),xs = [.ref l] ∧ H l = some (.lst (all.map fun x => V.ref x.1)) ∧ all.length ≤ 1000 ∧ (∀ x ∈ all,H x.1 = some (.tup [.ref x.2.1,x.2.2.2]) ∧ H x.2.1 = some (.tup (x.2.2.1.map kV))) ∧
  ∀ (p : Addr) H',H p = none → Same H H' → H' p = some (.dT (all.foldl dpPut [])) → Q (.ref p) H'
theorem call_dictP {X : Cx} (hc : X.calm = true) (hu : X.A.units + 64 < cLine) : CallR X (.type "dict") rDP := by
  intro pins s σ H vs us Q I rv h
  obtain ⟨l,all,rfl,hl,hz,hx,k⟩ := h
  obtain ⟨u,rfl,ru⟩ := vals1 rv
  cases (show u = Value.ref l from ru)
  have hn := I.hok.fresh (Nat.le_refl s.heap.objs.size)
  refine callType_codes (Q₁ := fun obj s₁ => obj = .ref s.heap.objs.size ∧ s₁ = { s with heap := s.heap.push { cls := .type "dict",data := .dict #[] } }) F.kt_called_dict (F.kt_typeCall_dict_1 _) F.entry_dict_init (kt_code_dict_new _ ⟨rfl,rfl⟩) ?_
  rintro obj s₁ ⟨rfl,rfl⟩
  have I1 : Inv X pins σ (upd H s.heap.objs.size (.dT [])) { s with heap := s.heap.push { cls := .type "dict",data := .dict #[] } } := I.laid (a := s.heap.objs.size) (o := .dT []) (t' := s.toks) (fun _ _ q => Heap.get?_push_of_some _ q) (Nat.le_refl _) (dt_empty s.heap I.big)
  have ty : ({ s with heap := s.heap.push { cls := .type "dict",data := .dict #[] } } : Shared).TypeIs (.ref s.heap.objs.size) "dict" := ⟨_,Heap.get?_push_size _ rfl,rfl⟩
  have ne : l ≠ s.heap.objs.size := fun z => by rw [z,hn] at hl; cases hl
  have hl1 : upd H s.heap.objs.size (.dT []) l = some (.lst (all.map fun x => V.ref x.1)) := by rw [upd_ne ne]; exact hl
  refine ⟨ty,F.args_dict_init_2 _ _,?_⟩
  unfold Builtin.«dict.__init__»; refine wpAny_bind ?_; unfold Builtin.Dict.selfAndRest; refine wpAny_bind (wpAny_notOrdered_dict ty ?_); show wpAny _ _ (pure (s.heap.objs.size,[Value.ref l])) _ _ _; refine wpAny_pure ?_
  show wpAny _ _ (Builtin.Dict.updateFrom "dict.__init__" s.heap.objs.size (.ref l) [] .none) _ _ _
  unfold Builtin.Dict.updateFrom
  obtain ⟨_,its,n,r,_,el⟩ := I1.lstM hl1
  refine wpAny_bind (wpAny_typeOf (T := "list") ⟨_,el,rfl⟩ ?_)
  rw [if_pos (by decide)]
  refine wpAny_bind (dp_no_keys el rfl rfl rfl (I.ok.hd hc) fun h' tk kp => ?_)
  have I2 : Inv X pins σ (upd H s.heap.objs.size (.dT [])) { s with heap := h',toks := tk } := I1.kept (t' := tk) kp
  show wpAny _ _ (rule _ >>= _) _ _ _; refine wpAny_bind (wpAny_rule ?_)
  have pl := kp _ _ el
  refine wpAny_bind (wpAny_pyIter_list ⟨_,pl,rfl,_,rfl⟩ ?_)
  refine wpAny_pure ⟨plainId_quiet F.dp_plain _,dp_loop (A := X.A.in1) (I.ok.hd hc) (show X.A.units + 1 + 1 < cLine by omega) hz all.length 0 _ _ [] _ _ rfl (Nat.zero_le _) (I2.kept (t' := tk) fun _ _ q => Heap.get?_push_of_some _ q) ⟨_,Heap.get?_push_size _ rfl,rfl,rfl⟩ (I2.fpOk (Nat.le_refl _) (I2.hok.fresh (Nat.le_refl _))) hl1 upd_same (Nat.le_refl _) (fun x hm => ?_) fun s' H' I' o' e' => ⟨rfl,.ref _,_,I',rfl,k _ H' hn (fun b o e => ?_) e'⟩⟩
  · have q := hx x hm
    exact ⟨by rw [upd_ne (fun z => by rw [z,hn] at q; exact nomatch q.1)]; exact q.1,by rw [upd_ne (fun z => by rw [z,hn] at q; exact nomatch q.2)]; exact q.2⟩
  · have nb : b ≠ s.heap.objs.size := fun z => by rw [z,hn] at e; cases e
    rw [o' b nb,upd_ne nb]
    exact e
theorem call_lenD {X : Cx} : CallR X (.builtin "len") (fun xs H Q => ∃ (d : Addr) (kvs : List (List Key × V)),xs = [.ref d] ∧ H d = some (.dT kvs) ∧ Q (.int (kvs.length : Int)) H) := by
  intro pins s σ H xs us Q I r h
  obtain ⟨d,kvs,rfl,hd,q⟩ := h
  obtain ⟨u,rfl,rx⟩ := vals1 r
  cases (show u = Value.ref d from rx)
  obtain ⟨z,hdm,xs,rel,dd⟩ := dt_of I.hok hd
  obtain ⟨o,es,ep,ho,g2,hdat,g4,_⟩ := id dd
  have hT : s.TypeIs (.ref d) "dict" := ⟨_,ho,g2.1⟩
  have hlen : es.size = kvs.length := by
    have := congrArg List.length g4
    rw [List.length_map,Array.length_toList] at this
    rw [this,← Paired.length rel]
  rw [sizeLine_eq] at z
  refine Calls.call_function_entry kind_len plain_len entry_len (args_len1 _) ?_
  unfold Builtin.«len»; refine wpAny_bind (m := oneArg "len" _) (wpAny_pure ?_)
  refine wpAny_bind (m := callSpecial? (.ref d) (Str.ofString "__len__")) (wpAny_callSpecial?_slot (name := Str.ofString "__len__") hT F.slot_dict_len (wpAny_call_entry F.slot_dict_len hT F.entry_dict_len ?_ (F.args_dict_len_1 _)))
  show wpAny _ _ (dictSize d >>= _) _ _ s; unfold dictSize; refine wpAny_bind (wpAny_bind (wpAny_dictEntries ho hdat (wpAny_pure ?_)))
  show wpAny _ _ (Builtin.Dict.pendingCount d >>= _) _ _ s; refine wpAny_bind (wpAny_pendingCount_other hdm ?_); refine wpAny_bind (wpAny_mkInt (wpAny_pure ?_))
  rw [Nat.add_zero,hlen]
  refine ⟨_,rfl,?_⟩; refine wpAny_bind (wpAny_holding (wpAny_pure ?_)); refine wpAny_bind (wpAny_letGo ?_)
  show wpAny _ _ (if ((kvs.length : Nat) : Int) < 0 then _ else _) _ _ _; rw [if_neg (by omega)]; show wpAny _ _ (if ((kvs.length : Nat) : Int) ≥ 2 ^ 63 then _ else _) _ _ _; rw [if_neg (by omega)]
  exact wpAny_bind (wpAny_mkInt (wpAny_pure ⟨_,rfl,.int _,H,I.tok _,⟨_,rfl⟩,q⟩))
def rExtendA : V → List V → Hp → VK → Prop := fun x vs H Q => ∃ l b xs zs,x = .ref l ∧ vs = [.ref b] ∧ H l = some (.lst xs) ∧ H b = some (.lst zs) ∧ xs.length + zs.length ≤ sizeLine ∧ ∀ H',Upd H H' l xs (xs ++ zs) → Q .non H'
theorem mt_extendA {X : Cx} : MtM X "list.extend" rExtendA := fun pins s σ H x xs v us Q I rx rs ⟨l,b,ys,zs,e1,e2,h,h2,hz,q⟩ =>
  mt_extend pins s σ H x xs v us Q I rx rs ⟨l,b,ys,zs,e1,e2,h,h2,hz,q _ (.mk' h)⟩
def rClearA : V → List V → Hp → VK → Prop := fun x vs H Q => ∃ l xs,x = .ref l ∧ vs = [] ∧ H l = some (.lst xs) ∧ ∀ H',Upd H H' l xs [] → Q .non H'
theorem mt_clearA {X : Cx} : MtM X "list.clear" rClearA := fun pins s σ H x xs v us Q I rx rs ⟨l,ys,e1,e2,h,q⟩ =>
  mt_clear pins s σ H x xs v us Q I rx rs ⟨l,ys,e1,e2,h,q _ (.mk' h)⟩
theorem turn_range2 {P : Program} {w : World} {K : PySem.W.Frag} {tg : Expr} (it : Addr) (lo c : Int) (n : Nat) : Turn P w K tg ⟨fun i _ => i < n,fun i H x H' => H' = H ∧ x = .int (lo + i * c),fun i _ => n ≤ i⟩ [it] it (fun i h => IsRangeIter h it (lo + (i : Nat) * c) ((n : Int) - (i : Nat)) c) where
  mem := by simp
  obj := fun i h st b hb => by
    have e : b = it := by simpa using hb
    subst e; exact ⟨_,st,fun v z => by have z' : Data.fields _ = Data.cell v := z; cases z'⟩
  keep := fun i h h' st k => k it (by simp) _ st
  item := by
    intro X hP hw hK hc i pins s σ H E I hf st hg
    subst hP hw hK
    obtain ⟨f0,f1,f2,f3,f4,f5⟩ := hf it (by simp)
    have W := Walks.range (prog := X.prog) (w := X.w) (I.ok.hd hc) it lo c n
    refine W.item i s _ _ hg st fun v h' tk hv st' kk => ?_
    obtain ⟨t,rfl⟩ := hv
    have I1 : Inv X pins σ H { s with heap := h',toks := tk } := I.turned (fun b o hb e => kk b o (by simpa using hb) e) f0 f1 f3 f4 f5
    exact ⟨_,rfl,go_of (s := { s with heap := h',toks := tk }) (n := "range_iterator") st' rfl rfl (by decide) ⟨.int (lo + i * c),H,I1,⟨t,rfl⟩,⟨rfl,rfl⟩,st',fun b hb => (hf b hb).1⟩⟩
  done := by
    intro X hP hw hK hc i pins s σ H E I hf st hg
    subst hP hw hK
    obtain ⟨f0,f1,f2,f3,f4,f5⟩ := hf it (by simp)
    exact wpAny_pyNext_range_end (I.ok.hd hc) st (by have : n ≤ i := hg; omega) fun h' eb => ⟨rfl,I.turned (t' := s.toks) (fun b o hb e => eb b o hb e) f0 f1 f3 f4 f5⟩
  self := fun _ _ _ _ _ st h => wpAny_pyIter_rangeiter st h
def Itr2 (n : Nat) : It := ⟨fun i _ => i < n,fun i H x H' => H' = H ∧ x = .int (0 + i * 2),fun i _ => n ≤ i⟩
def iRng3 (ta : TA) : TI := fun σ H R => ta σ H fun vs H1 => ∃ j : Int,vs = [.int 0,.int j,.int 2] ∧ 0 ≤ j ∧ j ≤ 1000 ∧ R (Itr2 ((j + 1) / 2).toNat) H1
theorem pi_range3 {X : Cx} {tg : Expr} {a b c : Expr} {ta : TA} {p pos : Pos} (hg : Gl X "range") (hm : X.mg "range" = none) (ha : PA X [a,b,c] ta) (hs : starEach [a,b,c] X.env = [(false,eval a X.env),(false,eval b X.env),(false,eval c X.env)] := by rfl) (hs2 : starEach [b,c] X.env = [(false,eval b X.env),(false,eval c X.env)] := by rfl) :
    PI X tg (.Call (.Name "range" p) [a,b,c] [] pos) (iRng3 ta) := by
  intro pins s σ H R I h
  refine Call_ (ld_blt I hg hm boot_range (PyProof.Rows.callWith_type1 (thn (ha pos pins s σ H _ I h) fun us s1 ⟨vs,H1,I1,r1,q1⟩ => ?_) (by rw [hs,hs2]) (by rw [hs2]; rfl)))
  obtain ⟨j,e,q1,q2,q⟩ := q1
  subst e
  obtain ⟨u1,us,rfl,⟨t1,rfl⟩,r2⟩ : ∃ u1 us',us = u1 :: us' ∧ RelV (.int 0) u1 ∧ Vals [.int j,.int 2] us' := by
    cases r1 with
    | cons a b => exact ⟨_,_,rfl,a,b⟩
  obtain ⟨u2,u3,rfl,⟨t2,rfl⟩,⟨t3,rfl⟩⟩ := vals2 r2
  have hsz : Builtin.Range.rangeSize 0 j 2 = (((j + 1) / 2).toNat : Int) := by
    unfold Builtin.Range.rangeSize
    simp only [show (2 : Int) > 0 by decide,if_true]
    split <;> omega
  have hsm : Builtin.Range.small 0 j 2 = true := by
    unfold Builtin.Range.small
    rw [hsz]
    simp only [Builtin.Range.rangeFitsLong,Bool.and_eq_true,Bool.or_eq_true,decide_eq_true_eq,beq_iff_eq,show (2 : Int) > 0 by decide,if_true]
    omega
  refine callType_new F.called_range (by decide) (F.typeCall_range_3 _ _ _) (F.newCall_range_3 _ _ _) (fun obj => F.initArgs_range_3 obj _ _ _) F.entry_range_new (AutoRange.range___new___type_int_int_int_1 0 j 2 t1 t2 t3 F.called_range.sub (by decide)) ⟨by unfold Builtin.divisionGoesByPylong; rfl,⟨_,Heap.get?_push_size _ rfl,rfl⟩,?_⟩
  refine wpAny_pyIter_range (IsRange.new ..) hsm ?_
  rw [hsz]
  have I2 : Inv X pins σ H1 { s1 with heap := s1.heap.push { cls := .type "range",data := .fields #[.int 0 t1,.int j t2,.int 2 t3] } } := I1.kept (t' := s1.toks) fun b o e => Heap.get?_push_of_some _ e
  refine ⟨_,[(s1.heap.push { cls := .type "range",data := .fields #[.int 0 t1,.int j t2,.int 2 t3] }).objs.size],_,_,H1,rfl,I2.kept (t' := s1.toks) fun b o e => Heap.get?_push_of_some _ e,turn_range2 _ 0 2 ((j + 1) / 2).toNat,?_,fun b hb => ?_,q⟩
  · show IsRangeIter _ _ (0 + ((0 : Nat) : Int) * 2) ((((j + 1) / 2).toNat : Int) - ((0 : Nat) : Int)) 2
    rw [show (0 : Int) + ((0 : Nat) : Int) * 2 = 0 from rfl,show ((((j + 1) / 2).toNat : Int) - ((0 : Nat) : Int)) = (((j + 1) / 2).toNat : Int) by omega]
    exact Heap.get?_push_size _ rfl
  · have e : b = (s1.heap.push { cls := .type "range",data := .fields #[.int 0 t1,.int j t2,.int 2 t3] }).objs.size := by simpa using hb
    subst e
    exact I2.fpOk (Nat.le_refl _) (I2.hok.fresh (Nat.le_refl _))
theorem for_range2 {n : Nat} {g : TG} {tb : TS} {D : Ends} {σ : St} {H : Hp} (Pv : Nat → St → Hp → Prop) (h0 : Pv 0 σ H)
    (hs : ∀ i σ H,i < n → Pv i σ H → g (.int (0 + i * 2)) σ H fun σ2 H2 => tb { D with nx := Pv (i + 1),ct := Pv (i + 1),bk := D.nx } σ2 H2) (hd : ∀ σ H,Pv n σ H → D.nx σ H) :
    ∃ W : Nat → Nat → St → Hp → Prop,(∃ m,W 0 m σ H) ∧ ∀ i m σ H,W i m σ H →
      ((Itr2 n).stop i H ∧ D.nx σ H) ∨ ((Itr2 n).go i H ∧ ∃ N : St → Hp → Prop,(∀ σ' H',N σ' H' → ∃ m',m' < m ∧ W (i + 1) m' σ' H') ∧ ∀ x H',(Itr2 n).yld i H x H' → g x σ H' fun σ2 H2 => tb { D with nx := N,ct := N,bk := D.nx } σ2 H2) := by
  refine ⟨fun i m σ H => m = n - i ∧ i ≤ n ∧ Pv i σ H,⟨n,by simp,Nat.zero_le _,h0⟩,?_⟩
  rintro i m σ H ⟨rfl,hi,p⟩
  by_cases hlt : i < n
  · refine .inr ⟨hlt,Pv (i + 1),fun σ' H' p' => ⟨n - (i + 1),by omega,rfl,hlt,p'⟩,fun x H' ⟨e,y⟩ => ?_⟩
    subst e y
    exact hs i σ _ hlt p
  · have e : i = n := by omega
    subst e
    exact .inl ⟨Nat.le_refl _,hd σ H p⟩
end L2
namespace L2
open PySem PySem.Spec PyProof.Rows PySem.W
abbrev KnO (o : Obj) : HO := .frz o (.ext fun _ => True)
theorem kn_ok {P : Program} {w : World} {H : Hp} {h : Heap} {a : Addr} {o : Obj} (e : h.get? a = some o) : ObjOk P w H h a (KnO o) := ⟨e,trivial,⟨o,e⟩,fun _ _ _ _ => trivial⟩
theorem kn_get {P : Program} {w : World} {H : Hp} {h : Heap} {a : Addr} {o : Obj} (k : HOk P w H h) (e : H a = some (KnO o)) : h.get? a = some o := (show h.get? a = some o ∧ _ from k a _ e).1
def CellAt (H : Hp) (c : Addr) (v : V) : Prop := ∃ o u,H c = some (KnO o) ∧ o.data = .cell (some u) ∧ RelV v u
def CodeK (H : Hp) (c : Addr) (q : Str) : Prop := ∃ o vs t,H c = some (KnO o) ∧ o.data = .fields vs ∧ vs[1]? = some (.str q t)
theorem CodeK.rec_ {P : Program} {w : World} {H : Hp} {h : Heap} {c : Addr} {q : Str} (x : CodeK H c q) (k : HOk P w H h) : h.CodeRec (.ref c) q := by
  obtain ⟨o,vs,t,e,d,g⟩ := x
  exact ⟨c,o,vs,t,rfl,kn_get k e,d,g⟩
def SameP (p : Addr) (H H' : Hp) : Prop := ∀ b o,b ≠ p → H b = some o → H' b = some o
def CodeF (K : Frag) (c p : Addr) : Prop :=
  ∃ o vs file tf flags tg inF text tt,K.lookup c = some o ∧ o.cls = .type "code" ∧ o.data = .fields vs ∧ vs[11]? = some (.ref p) ∧ vs.getD 11 .none = .ref p ∧ vs.getD 18 .none = .str file tf ∧
    vs.getD 7 .none = .int flags tg ∧ vs.getD 9 .none = .bool inF ∧ vs.getD 10 .none = .int text tt ∧ c ≠ p
theorem CodeF.hd {K : Frag} {c p : Addr} {h : Heap} (x : CodeF K c p) (X : K.In h) : CodeHd h c p := by
  obtain ⟨o,vs,file,tf,flags,tg,inF,text,tt,e,r⟩ := x
  exact ⟨o,vs,file,tf,flags,tg,inF,text,tt,X _ _ e,r⟩
def BltF (K : Frag) (mg : Str → Option Value) : Prop :=
  ∃ bm o,mg "__builtins__" = some (.ref bm) ∧ bm ≠ builtinsNs ∧ bm ≠ mainGlobals ∧ K.lookup bm = some o ∧ o.cls = .type "module" ∧ o.dict = some builtinsNs ∧ o.data = .plain
def Tab (H : Hp) (p : Addr) (ls : List (Pos × Str)) : Prop :=
  ∃ ps,H p = some (.tbl ps) ∧ TriplesOk ps.toList ∧ ∀ l ∈ ls,codeAmong l.1 ps.toList = none ∨ ∃ c,codeAmong l.1 ps.toList = some (.ref c) ∧ CodeK H c l.2
theorem Tab.same {H H' : Hp} {p : Addr} {ls : List (Pos × Str)} (t : Tab H p ls) (s : Same H H') : Tab H' p ls := by
  obtain ⟨ps,e,k,a⟩ := t
  refine ⟨ps,s _ _ e,k,fun l hl => (a l hl).imp_right ?_⟩
  rintro ⟨c,e2,o,vs,t,e3,r⟩
  exact ⟨c,e2,o,vs,t,s _ _ e3,r⟩
def LamAt (H : Hp) (f : Addr) (q : Str) (params : Arguments) (body : Expr) (scope : Scope) (clos : List (Str × Addr)) : Prop :=
  ∃ pm c ctv,H f = some (KnO (kla_obj "<lambda>" q params body scope clos pm c ctv)) ∧ CodeK H c q
theorem LamAt.same {H H' : Hp} {f : Addr} {q : Str} {params : Arguments} {body : Expr} {scope : Scope} {clos : List (Str × Addr)} (t : LamAt H f q params body scope clos) (s : ∀ b o,H b = some (KnO o) → H' b = some (KnO o)) : LamAt H' f q params body scope clos := by
  obtain ⟨pm,c,ctv,e,o,vs,t,e3,r⟩ := t
  exact ⟨pm,c,ctv,s _ _ e,o,vs,t,s _ _ e3,r⟩
theorem among_snoc_ne {pos pos' : Pos} {c : Value} (l : List Value) (h : TriplesOk l) (ne : ¬ (pos'.line = pos.line ∧ pos'.col = pos.col)) : codeAmong pos' (l ++ [rawInt pos.line,rawInt pos.col,c]) = codeAmong pos' l := by
  fun_induction TriplesOk l with
  | case1 =>
    show codeAmong pos' [rawInt pos.line,rawInt pos.col,c] = codeAmong pos' []
    simp only [rawInt,codeAmong]
    rw [if_neg]
    intro z
    rw [Bool.and_eq_true] at z
    have z1 := eq_of_beq z.1
    have z2 := eq_of_beq z.2
    exact ne ⟨by omega,by omega⟩
  | case2 a ta b tb c' rest ih =>
    show codeAmong pos' (.int a ta :: .int b tb :: c' :: (rest ++ [rawInt pos.line,rawInt pos.col,c])) = codeAmong pos' (.int a ta :: .int b tb :: c' :: rest)
    unfold codeAmong
    rw [ih h]
  | case3 l h1 h2 => exact h.elim
def tLam (p : Addr) (ls : List (Pos × Str)) (q : Str) (params : Arguments) (body : Expr) (scope : Scope) (clos : List (Str × Addr)) : TE := fun _ H Q =>
  Tab H p ls ∧ ∀ f H',SameP p H H' → Tab H' p ls → LamAt H' f q params body scope clos → H f = none → Q (.ref f) H'
section
variable {X : Cx} {params : Arguments} {body : Expr} {scope : Scope} {pos : Pos} {clos : List (Str × Addr)} {c p : Addr} {ls : List (Pos × Str)} {q : Str}
theorem pe_lam (hcl : closureFor scope X.env = pure clos) (hcode : X.env.code = .ref c) (C : CodeF X.K c p) (B : BltF X.K X.mg) (hdef : defaultsOf params X.env = ([],[])) (hq : q = X.env.qual ++ "<lambda>") (hm : (pos,q) ∈ ls)
    (hd : ∀ l ∈ ls,l ≠ (pos,q) → ¬ (l.1.line = pos.line ∧ l.1.col = pos.col)) : PE X (.Lambda params body scope pos) (tLam p ls q params body scope clos) := by
  intro pins s σ H Q I h
  obtain ⟨⟨ps,hp,tk,ok⟩,k⟩ := h
  subst hq
  have hP : s.heap.get? p = some (tabObj ps) := I.hok p _ hp
  have hg : s.heap.Ns mainGlobals X.mg := I.mod.glob.keeps I.bk
  have hgP : mainGlobals ≠ p := fun z => by
    obtain ⟨o,es,ep,e,d,_⟩ := hg
    rw [z,hP] at e; cases e; cases d
  obtain ⟨bm,ob,b1,b2,b3,b4,b5,b6,b7⟩ := B
  have hbm := I.kIn _ _ b4
  have hbP : bm ≠ p := fun z => by
    rw [z,hP] at hbm; cases hbm; cases b7
  have BA : s.heap.BuiltinsAt X.mg p := ⟨bm,ob,b1,b2,b3,hbP,hbm,b5,b6,b7⟩
  have CH := C.hd I.kIn
  refine kla_eval hdef ?_
  rcases ok _ hm with hn | ⟨c',hc',ck⟩
  · refine kla_makeFunction (mg := X.mg) hcl I.ok.glob hg hcode CH hP tk hn hgP BA fun c' ctv h' t' hx hge hlt hrec htb => ?_
    obtain ⟨c₂,oc,vs,t,e2,hoc,hd2,hv⟩ := hrec
    cases e2
    have hfo : h'.objs.size ≠ c' := Nat.ne_of_gt hlt
    have hpo : p < s.heap.objs.size := Heap.lt_size hP
    have pc : p ≠ c' := Nat.ne_of_lt (Nat.lt_of_lt_of_le hpo hge)
    have pf : p ≠ h'.objs.size := Nat.ne_of_lt (Nat.lt_trans (Nat.lt_of_lt_of_le hpo hge) hlt)
    have nc : H c' = none := I.hok.fresh hge
    have nf : H h'.objs.size = none := I.hok.fresh (Nat.le_of_lt (Nat.lt_of_le_of_lt hge hlt))
    generalize hps : ps ++ #[rawInt pos.line,rawInt pos.col,.ref c'] = ps' at htb
    generalize hfob : kla_obj "<lambda>" (X.env.qual ++ "<lambda>") params body scope clos ((X.mg "__name__").getD .none) c' ctv = fo at *
    have nfr : fo.isFreed = false := by rw [← hfob]; rfl
    have ext : ∀ b o,b ≠ p → s.heap.get? b = some o → (h'.push fo).get? b = some o := fun b o ne e => Heap.get?_push_of_some _ (hx b o ne e)
    let H' : Hp := upd (upd (upd H p (.tbl ps')) c' (KnO oc)) h'.objs.size (KnO fo)
    have Hf : H' h'.objs.size = some (KnO fo) := upd_same
    have Hc : H' c' = some (KnO oc) := (upd_ne hfo.symm).trans upd_same
    have Hp' : H' p = some (.tbl ps') := (upd_ne pf).trans ((upd_ne pc).trans upd_same)
    have Hb : ∀ b,b ≠ p → b ≠ c' → b ≠ h'.objs.size → H' b = H b := fun b z1 z2 z3 => (upd_ne z3).trans ((upd_ne z2).trans (upd_ne z1))
    have Hs : SameP p H H' := fun b o ne e => by
      rw [Hb b ne (fun z => by rw [z,nc] at e; cases e) (fun z => by rw [z,nf] at e; cases e)]; exact e
    have old : ∀ b o,s.heap.get? b = some o → b ≠ c' ∧ b ≠ h'.objs.size := fun b o e => ⟨Nat.ne_of_lt (Nat.lt_of_lt_of_le (Heap.lt_size e) hge),Nat.ne_of_lt (Nat.lt_trans (Nat.lt_of_lt_of_le (Heap.lt_size e) hge) hlt)⟩
    have npn : ∀ b,H b = none → b ≠ p := fun b n z => by rw [z,hp] at n; cases n
    have un : Un X.fs [] H H' s.heap (h'.push fo) := by
      refine ⟨fun b o e n _ _ => ext b o (npn b n) e,fun b o e n _ _ => ⟨o.slots,ext b o (npn b n) e⟩,fun b o e n _ => ?_,fun b o e _ => ?_,fun b xs e => Hs b _ (fun z => by rw [z,hp] at e; cases e) e,fun b o u e => Hs b _ (fun z => by rw [z,hp] at e; cases e) e,fun b ps2 e => ?_⟩
      · rw [Hb b (npn b n) (old b o e).1 (old b o e).2]; exact n
      · by_cases z : b = p
        · subst z; exact ⟨_,Heap.get?_push_of_some _ htb⟩
        · exact ⟨o,ext b o z e⟩
      · by_cases z : b = p
        · subst z
          rw [hp] at e; cases e
          exact ⟨_,by rw [Hp',← hps]⟩
        · exact ⟨#[],by rw [Hs b _ z e]; simp⟩
    have hok : HOk X.prog X.w H' (h'.push fo) := fun b u e => by
      by_cases z3 : b = h'.objs.size
      · subst z3
        rw [Hf] at e; cases e
        exact kn_ok (Heap.get?_push_size _ nfr)
      · by_cases z2 : b = c'
        · subst z2
          rw [Hc] at e; cases e
          exact kn_ok (Heap.get?_push_of_some _ hoc)
        · by_cases z1 : b = p
          · subst z1
            rw [Hp'] at e; cases e
            exact Heap.get?_push_of_some _ htb
          · rw [Hb b z1 z2 z3] at e
            refine (I.hok b u e).stay (fun d v hd' q => ext d v ?_ q) (fun d q => Hs d _ (fun z => by rw [z,hp] at q; cases q) q) fun d xs q => Hs d _ (fun z => by rw [z,hp] at q; cases q) q
            rcases hd' with rfl | hd'
            · exact z1
            · intro z
              rw [z,hp] at hd'; cases hd'
    have CK : CodeK H' c' (X.env.qual ++ "<lambda>") := ⟨oc,vs,t,Hc,hd2,hv⟩
    have e0 : ps'.toList = ps.toList ++ [rawInt pos.line,rawInt pos.col,.ref c'] := by rw [← hps]; simp
    refine ⟨.ref h'.objs.size,H',I.un (t' := t') un hok,rfl,k _ H' Hs ⟨ps',Hp',?_,fun l hl => ?_⟩ ⟨_,c',ctv,by rw [Hf,← hfob],CK⟩ nf⟩
    · rw [e0]
      exact TriplesOk_snoc _ _ _ _ tk
    · by_cases z : l = (pos,X.env.qual ++ "<lambda>")
      · subst z
        refine .inr ⟨c',?_,CK⟩
        rw [e0]
        exact codeAmong_snoc _ tk hn
      · rw [e0,among_snoc_ne _ tk (hd l hl z)]
        refine (ok l hl).imp_right ?_
        rintro ⟨c3,e3,o3,vs3,t3,e4,r4⟩
        exact ⟨c3,e3,o3,vs3,t3,Hs _ _ (fun z => by rw [z,hp] at e4; cases e4) e4,r4⟩
  · refine kla_makeFunctionHit (mg := X.mg) hcl I.ok.glob hg hcode CH hP tk hc' BA fun ctv h' t' hx hsz => ?_
    have nf : H h'.objs.size = none := I.hok.fresh hsz
    have J := I.laid (a := h'.objs.size) (o := KnO (kla_obj "<lambda>" (X.env.qual ++ "<lambda>") params body scope clos ((X.mg "__name__").getD .none) c' ctv)) (t' := t') (h' := h'.push (kla_obj "<lambda>" (X.env.qual ++ "<lambda>") params body scope clos ((X.mg "__name__").getD .none) c' ctv))
      (fun b o e => Heap.get?_push_of_some _ (hx b o e)) hsz (kn_ok (Heap.get?_push_size _ rfl))
    have S : Same H (upd H h'.objs.size (KnO (kla_obj "<lambda>" (X.env.qual ++ "<lambda>") params body scope clos ((X.mg "__name__").getD .none) c' ctv))) := fun b o e => by
      rw [upd_ne (fun z => by rw [z,nf] at e; cases e)]; exact e
    obtain ⟨o,vs,t,e3,r⟩ := ck
    exact ⟨.ref h'.objs.size,_,J,rfl,k _ _ (fun b o _ e => S b o e) (Tab.same ⟨ps,hp,tk,ok⟩ S) ⟨_,c',ctv,upd_same,o,vs,t,S _ _ e3,r⟩ nf⟩
end
abbrev cut (C : List Addr) (H : Hp) : Hp := fun b => if b ∈ C then none else H b
abbrev putc (C : List Addr) (H H1 : Hp) : Hp := fun b => if b ∈ C then H b else H1 b
theorem cut_in {C : List Addr} {H : Hp} {b : Addr} (h : b ∈ C) : cut C H b = none := if_pos h
theorem cut_out {C : List Addr} {H : Hp} {b : Addr} (h : b ∉ C) : cut C H b = H b := if_neg h
theorem putc_in {C : List Addr} {H H1 : Hp} {b : Addr} (h : b ∈ C) : putc C H H1 b = H b := if_pos h
theorem putc_out {C : List Addr} {H H1 : Hp} {b : Addr} (h : b ∉ C) : putc C H H1 b = H1 b := if_neg h
theorem putc_same {C : List Addr} {H H1 : Hp} (s : Same (cut C H) H1) : Same H (putc C H H1) := fun b o e => by
  by_cases h : b ∈ C
  · rw [putc_in h]; exact e
  · rw [putc_out h]; exact s b o ((cut_out h).trans e)
theorem cut_ok {P : Program} {w : World} {H : Hp} {h : Heap} {C : List Addr} (hok : HOk P w H h) (hC : ∀ c ∈ C,∃ o,H c = some (KnO o)) : HOk P w (cut C H) h := fun b u e => by
  have hb : b ∉ C := fun z => by rw [cut_in z] at e; cases e
  rw [cut_out hb] at e
  have ne : ∀ d o,H d = some o → (∀ z,o ≠ KnO z) → d ∉ C := fun d o e n z => by
    obtain ⟨o',e'⟩ := hC d z
    rw [e] at e'
    exact n o' (Option.some.inj e')
  refine (hok b u e).stay (fun _ _ _ q => q) (fun d q => ?_) fun d xs q => ?_
  · rw [cut_out (ne d _ q fun z q => by cases q)]; exact q
  · rw [cut_out (ne d _ q fun z q => by cases q)]; exact q
def cxLam (P : Program) (w : World) (K : PySem.W.Frag) (mg : Str → Option Value) (base : Heap) (N : List Str) (qual : Str) (scope : Scope) (f : Addr) (cd : Value) (cl : List (Str × Addr)) (A : Around) (outer : List Env) (s : Shared) (H : Hp) : Cx where
  prog := P
  w := w
  K := K
  mg := mg
  base := base
  A := A.deeper (envX qual scope s.heap.objs.size f cd cl)
  N := N
  s₀ := s
  H₀ := H
  env := envX qual scope s.heap.objs.size f cd cl
  outer := outer
  stack := envX qual scope s.heap.objs.size f cd cl :: outer
  ex := []
  calm := true
  fn := fun _ => false
  pn := []
  xe := fun _ _ => False
structure LamN (x : Str) (scope : Scope) (cl : List (Str × Addr)) : Prop where
  kind : scope.kind = .function
  co : scope.isCoroutine = false
  gen : scope.isGenerator = false
  cell : ∀ y ∈ scope.names,y.2 ≠ .cell
  own : scope.names.lookup x = some .local
  has : (scope.names.all fun q => !(q.2 == .free) || (cl.lookup q.1).isSome) = true
  nd : (x :: cl.map (·.1)).Nodup
  fr : ∀ p ∈ cl,scope.names.lookup p.1 = some .free
  inj : ∀ p ∈ cl,∀ q ∈ cl,p.2 = q.2 → p.1 = q.1
theorem cl_lookup {cl : List (Str × Addr)} : ∀ (_ : (cl.map (·.1)).Nodup) {j : Nat} {y : Str} {c : Addr},cl[j]? = some (y,c) → cl.lookup y = some c := by
  induction cl with
  | nil => intro _ j y c e; simp at e
  | cons a r ih =>
    intro nd j y c e
    rw [List.map_cons,List.nodup_cons] at nd
    rw [List.lookup_cons]
    cases j with
    | zero =>
      simp at e
      subst e
      simp
    | succ j =>
      have e' : r[j]? = some (y,c) := by simpa using e
      have : y ≠ a.1 := fun z => nd.1 (List.mem_map.mpr ⟨(y,c),List.mem_of_getElem? e',z⟩)
      rw [beq_eq_false_iff_ne.mpr this]
      exact ih nd.2 e'
section
variable {P : Program} {w : World} {K : PySem.W.Frag} {mg : Str → Option Value} {base : Heap}
theorem lam_inv {x q : Str} {scope : Scope} {cl : List (Str × Addr)} {f c : Addr} {A : Around} {outer : List Env} {s : Shared} {h₁ : Heap} {tk : Nat} {H : Hp} {v : V} {u : Value} {ws : List V} (L : LamN x scope cl) (hd : A.handled = none) (e0 : Env0 P w K mg base A outer s H)
    (cs : Paired (fun (p : Str × Addr) z => CellAt H p.2 z) cl ws) (rv : RelV v u) (hns : h₁.Ns s.heap.objs.size (fun y => [(x,u)].reverse.lookup y)) (hk : ∀ b o,s.heap.get? b = some o → h₁.get? b = some o) :
    Inv (cxLam P w K mg base (x :: cl.map (·.1)) q scope f (.ref c) cl A outer s (cut (cl.map (·.2)) H)) [] (some v :: ws.map some) (cut (cl.map (·.2)) H) { s with heap := h₁,toks := tk } := by
  have get : ∀ {j : Nat} {p : Str × Addr},cl[j]? = some p → ∃ z,ws[j]? = some z ∧ CellAt H p.2 z := by
    clear L hns
    induction cs with
    | nil => intro j p e; simp at e
    | cons a r ih =>
      intro j p e
      cases j with
      | zero => simp at e; subst e; exact ⟨_,rfl,a⟩
      | succ j => exact ih (by simpa using e)
  have len : cl.length = ws.length := Paired.length cs
  have hC : ∀ d ∈ cl.map (·.2),∃ o,H d = some (KnO o) := fun d hd' => by
    obtain ⟨p,hp,rfl⟩ := List.mem_map.mp hd'
    obtain ⟨j,hj⟩ := List.getElem?_of_mem hp
    obtain ⟨z,_,o,_,e,_⟩ := get hj
    exact ⟨o,e⟩
  have isC : ∀ y d,cl.lookup y = some d → d ∈ cl.map (·.2) ∧ ∃ z,s.heap.IsCell d z := fun y d e => by
    have hm := PySem.mem_of_lookup e
    obtain ⟨j,hj⟩ := List.getElem?_of_mem hm
    obtain ⟨z,_,o,u',e',d',_⟩ := get hj
    exact ⟨List.mem_map.mpr ⟨_,hm,rfl⟩,some u',o,kn_get e0.hok e',d'⟩
  have noA : ∀ b : Addr,b ∉ (cxLam P w K mg base (x :: cl.map (·.1)) q scope f (.ref c) cl A outer s (cut (cl.map (·.2)) H)).ex := fun b z => absurd (show b ∈ ([] : List Addr) from z) (by simp)
  have hcut := cut_ok (C := cl.map (·.2)) e0.hok hC
  have cn : ∀ b,H b = none → cut (cl.map (·.2)) H b = none := fun b n => by
    by_cases z : b ∈ cl.map (·.2)
    · exact cut_in z
    · rw [cut_out z]; exact n
  have inv : ∀ h' : Heap,(∀ b o,s.heap.get? b = some o → h'.get? b = some o) → Un (frs outer) [] (cut (cl.map (·.2)) H) (cut (cl.map (·.2)) H) s.heap h' := fun h' k => Un.kept k
  refine ⟨⟨e0.mod,L.kind,rfl,rfl,Nat.le_refl _,fun y z d h1 h2 => ?_,fun y hy => ?_,fun y d z => (by cases z),fun _ => hd,Around.frames_deeper e0.frames,.inr ⟨rfl,rfl⟩,fun b z => absurd z (noA b),fun b o e => ⟨(e0.bs b o e).1,cn b (e0.bs b o e).2⟩,e0.bsz,fun b _ _ => noA b,fun b z => absurd z (noA b),e0.funs,fun b hb => cn b (e0.frf b hb)⟩,
    rfl,e0.bare,inv h₁ hk,⟨_,hns,fun i y v' h1 h2 h3 => ?_⟩,fun y d h => ?_,?_,fun y d h => ?_,fun p hp => absurd (show p ∈ ([] : List (Addr × Obj)) from hp) (by simp),hcut.kept hk,?_⟩
  · exact L.inj _ (PySem.mem_of_lookup h1) _ (PySem.mem_of_lookup h2) rfl
  · have hy : scope.names.lookup y = some .cell ∨ scope.names.lookup y = some .free := hy
    rcases hy with hy | hy
    · exact absurd rfl (L.cell _ (PySem.mem_of_lookup hy))
    · have q := List.all_eq_true.mp L.has _ (PySem.mem_of_lookup hy)
      have q : (cl.lookup y).isSome = true := by simpa only [beq_self_eq_true,Bool.not_true,Bool.false_or] using q
      exact Option.isSome_iff_exists.mp q
  · have h1 : (x :: cl.map (·.1))[i]? = some y := h1
    cases i with
    | zero =>
      have e1 : x = y := by simpa using h1
      have e2 : v = v' := by simpa using h2
      subst e1 e2
      exact ⟨u,rv,.inl ⟨L.own,by simp⟩⟩
    | succ j =>
      have e1 : (cl.map (·.1))[j]? = some y := by simpa using h1
      rw [List.getElem?_map] at e1
      cases hj : cl[j]? with
      | none => rw [hj] at e1; cases e1
      | some p =>
        rw [hj] at e1
        have e1 : p.1 = y := by simpa using e1
        obtain ⟨z,hz,o,u',e',d',r'⟩ := get hj
        have e2 : z = v' := by
          have : (ws.map some)[j]? = some (some v') := by simpa using h2
          rw [List.getElem?_map,hz] at this
          simpa using this
        subst e1 e2
        refine ⟨u',r',.inr ⟨.inr (L.fr p (List.mem_of_getElem? hj)),p.2,cl_lookup (List.nodup_cons.mp L.nd).2 (c := p.2) (y := p.1) hj,o,hk _ _ (kn_get e0.hok e'),d'⟩⟩
  · obtain ⟨z,o,e,d'⟩ := (isC y d h).2
    exact ⟨z,o,hk _ _ e,d'⟩
  · exact cn _ (e0.hok.fresh (Nat.le_refl _))
  · exact cut_in (isC y d h).1
  · show (some v :: ws.map some).length = (x :: cl.map (·.1)).length
    simp [len]
def spLam (f : Addr) (q : Str) (params : Arguments) (body : Expr) (scope : Scope) (cl : List (Str × Addr)) (pm : Value) (c : Addr) (ctv : Value) (te : TE) : Sp := fun vs H Q _ =>
  ∃ v ws,vs = [v] ∧ H f = some (KnO (kla_obj "<lambda>" q params body scope cl pm c ctv)) ∧ CodeK H c q ∧ Paired (fun (p : Str × Addr) z => CellAt H p.2 z) cl ws ∧
    te (some v :: ws.map some) (cut (cl.map (·.2)) H) fun r H1 => (∀ c ∈ cl.map (·.2),H1 c = none) → Q r (putc (cl.map (·.2)) H H1)
theorem lam_fn {x q : Str} {params : Arguments} {body : Expr} {scope : Scope} {cl : List (Str × Addr)} {pm ctv : Value} {f c : Addr} {te : TE} {k : Nat} (L : LamN x scope cl)
    (hbody : ∀ (A : Around) (outer : List Env) (s : Shared) (H : Hp),Room k (A.deeper (envX q scope s.heap.objs.size f (.ref c) cl)) → PE (cxLam P w K mg base (x :: cl.map (·.1)) q scope f (.ref c) cl A outer s H) body te) :
    FnOk P w K mg base CX0 (k + 1) f (kla_fn "<lambda>" q params body scope cl pm (.ref c) ctv) [x] (spLam f q params body scope cl pm c ctv te) := by
  refine ⟨fun vs H Q E h => ?_,fun A outer s H args us vs Q E hr e0 hb r hsp => ?_⟩
  · obtain ⟨v,ws,rfl,_⟩ := h
    rfl
  · obtain ⟨v,ws,rfl,ef,ck,cs,h⟩ := hsp
    cases r with
    | cons rv r =>
      cases r
      rename_i u
      have lim : s.heap.NoLimit := e0.mod.nolimit.keeps fun b o e => (e0.bs b o e).1
      refine kla_callFunE hr.depth (kn_get e0.hok ef) rfl L.co L.gen rfl (ck.rec_ e0.hok) (hb _ _ _ _ ?_)
      refine wpAny_newFunctionEnv L.cell (fun y hy => ?_) (fun h₁ hns hsb => ⟨lim.fresh _ hsb,?_⟩) L.kind
      · obtain rfl : y = (x,u) := by simpa using hy
        exact L.own
      · show codeAny _ _ (.expr body (envX q scope s.heap.objs.size f (.ref c) cl)) _ _
        have hk₁ : ∀ b o,s.heap.get? b = some o → h₁.get? b = some o := fun b o e => hsb.extBut b o (Nat.ne_of_lt (Heap.lt_size e)) (Heap.get?_push_of_some _ e)
        have I := lam_inv (q := q) (f := f) (c := c) (tk := s.toks + ([x].zip [u]).length) L hr.hd e0 cs rv hns hk₁
        refine kla_codeExpr (wpAny_mono (hbody A outer s _ (hr.deeper _) _ _ _ _ _ I h) (fun u' s' hq => ?_) fun _ _ z => False.elim z)
        obtain ⟨v',H1,J,r',q'⟩ := hq
        have hC : ∀ d ∈ cl.map (·.2),∃ o,H d = some (KnO o) ∧ s.heap.get? d = some o := fun d hd' => by
          obtain ⟨p,hp,rfl⟩ := List.mem_map.mp hd'
          have : ∀ {l : List (Str × Addr)} {ws : List V},Paired (fun (p : Str × Addr) z => CellAt H p.2 z) l ws → p ∈ l → ∃ z,CellAt H p.2 z := by
            intro l ws cs
            induction cs with
            | nil => intro z; cases z
            | cons a r ih =>
              intro z
              rcases List.mem_cons.mp z with rfl | z
              · exact ⟨_,a⟩
              · exact ih z
          obtain ⟨z,o,_,e,_⟩ := this cs hp
          exact ⟨o,e,kn_get e0.hok e⟩
        have B : Un (frs outer) [] (cut (cl.map (·.2)) H) H1 s.heap s'.heap := J.base
        have nin : ∀ b,(∀ o,H b ≠ some (KnO o)) → b ∉ cl.map (·.2) := fun b n z => by
          obtain ⟨o,e,_⟩ := hC b z
          exact n o e
        have out : ∀ b,H b = none → b ∉ cl.map (·.2) := fun b n => nin b fun o e => by rw [n] at e; cases e
        have h1n : ∀ d ∈ cl.map (·.2),H1 d = none := fun d hd' => by
          obtain ⟨o,_,e⟩ := hC d hd'
          exact B.free d o e (cut_in hd') (by simp)
        have sC : ∀ d ∈ cl.map (·.2),∀ o,s.heap.get? d = some o → s'.heap.get? d = some o := fun d hd' o e => by
          refine B.keep d o e (cut_in hd') (fun z => ?_) (by simp)
          obtain ⟨o',e',_⟩ := hC d hd'
          rw [e0.frf d z] at e'
          cases e'
        refine ⟨v',putc (cl.map (·.2)) H H1,J.os,J.bare,⟨fun b o e n hb hx => ?_,fun b o e n hb hx => ?_,fun b o e n hx => ?_,fun b o e hx => B.there b o e hx,fun b xs e => ?_,fun b o u e => ?_,fun b ps e => ?_⟩,fun b u e => ?_,r',q' h1n⟩
        · exact B.keep b o e ((cut_out (out b n)).trans n) hb hx
        · exact B.slot b o e ((cut_out (out b n)).trans n) hb hx
        · rw [putc_out (out b n)]
          exact B.free b o e ((cut_out (out b n)).trans n) hx
        · have z : b ∉ cl.map (·.2) := nin b fun o' e' => by rw [e] at e'; cases e'
          rw [putc_out z]
          exact B.tups b xs ((cut_out z).trans e)
        · by_cases z : b ∈ cl.map (·.2)
          · rw [putc_in z]; exact e
          · rw [putc_out z]
            exact B.frzs b o u ((cut_out z).trans e)
        · have z : b ∉ cl.map (·.2) := nin b fun o' e' => by rw [e] at e'; cases e'
          obtain ⟨more,q⟩ := B.tbls b ps ((cut_out z).trans e)
          exact ⟨more,by rw [putc_out z]; exact q⟩
        · by_cases z : b ∈ cl.map (·.2)
          · rw [putc_in z] at e
            obtain ⟨o,e',g⟩ := hC b z
            rw [e] at e'
            cases e'
            exact kn_ok (sC b z o g)
          · rw [putc_out z] at e
            refine (J.hok b u e).stay (fun _ _ _ q => q) (fun d q => ?_) fun d xs q => ?_
            · rw [putc_out fun z => by rw [h1n d z] at q; cases q]; exact q
            · rw [putc_out fun z => by rw [h1n d z] at q; cases q]; exact q
end
def tCallL (cs : List (Addr × Nat)) (sp : Sp) (t : TA) : TE := fun σ H Q => t σ H fun vs H1 => ∀ H2,Same H1 H2 → (∀ p ∈ cs,∀ v,σ[p.2]? = some (some v) → CellAt H2 p.1 v) →
  sp vs H2 (fun r H3 => ∀ H4,(∀ b o,H3 b = some o → (∀ z,o ≠ KnO z) → H4 b = some o) → (∀ b o,H1 b = some o → H3 b = some o → H4 b = some o) → Q r H4) E0
section
variable {X : Cx} {x : Str} {ps : List Str} {k : Nat} {sp : Sp} {p pos : Pos} {e : Expr} {es : List Expr} {t : TA} {cs : List (Addr × Nat)}
open Classical in
theorem run_fnL {pins : List (Addr × Obj)} {σ : St} {H : Hp} {s : Shared} {Q : VK} {us : List Value} {vs : List V} {f : Addr} {fd : FuncData} (F : FnOk X.prog X.w X.K X.mg X.base CX0 k f fd ps sp) (hr : Room k X.A) (hb : Binds X.K fd ps []) (hfn : ∀ x,X.fn x = true)
    (hcs : ∀ p ∈ cs,∃ y,X.env.cells.lookup y = some p.1 ∧ X.N[p.2]? = some y ∧ X.env.kindOf y = some .cell ∧ Vis X.env.scope y) (I : Inv X pins σ H s) (r : Vals vs us)
    (h : ∀ H2,Same H H2 → (∀ p ∈ cs,∀ v,σ[p.2]? = some (some v) → CellAt H2 p.1 v) →
      sp vs H2 (fun r H3 => ∀ H4,(∀ b o,H3 b = some o → (∀ z,o ≠ KnO z) → H4 b = some o) → (∀ b o,H b = some o → H3 b = some o → H4 b = some o) → Q r H4) E0) :
    wpAny (model X.prog X.w) X.A (call (.ref f) us) (EP X pins σ Q) X.xe s := by
  let isC : Addr → Prop := fun b => ∃ y,X.env.cells.lookup y = some b
  let H2 : Hp := fun b => if isC b then (s.heap.get? b).map KnO else H b
  have in2 : ∀ b,isC b → H2 b = (s.heap.get? b).map KnO := fun b z => if_pos z
  have out2 : ∀ b,¬ isC b → H2 b = H b := fun b z => if_neg z
  have cN : ∀ b,isC b → H b = none := fun b ⟨y,e⟩ => I.freeC y b e
  have cG : ∀ b,isC b → ∃ o z,s.heap.get? b = some o ∧ o.data = .cell z := fun b ⟨y,e⟩ => by
    obtain ⟨z,o,e1,e2⟩ := I.cell y b e
    exact ⟨o,z,e1,e2⟩
  have cK : ∀ b o,isC b → s.heap.get? b = some o → H2 b = some (KnO o) := fun b o z e => by rw [in2 b z,e]; rfl
  have cA : ∀ b,isC b → X.s₀.heap.objs.size ≤ b := fun b ⟨y,e⟩ => I.ok.cab y b (hfn y) e
  have same : Same H H2 := fun b o e => by
    rw [out2 b fun z => by rw [cN b z] at e; cases e]; exact e
  have frn : ∀ b ∈ frs X.stack,¬ isC b := fun b hb ⟨y,e⟩ => by
    rcases List.mem_cons.mp (I.stkSub b hb) with z | z
    · exact I.cne y b e z
    · obtain ⟨_,o,ho,_⟩ := I.ok.funs.mem z
      exact absurd (Nat.lt_of_lt_of_le (Heap.lt_size ho) (cA b ⟨y,e⟩)) (Nat.lt_irrefl _)
  have hok2 : HOk X.prog X.w H2 s.heap := fun b u e => by
    by_cases z : isC b
    · obtain ⟨o,z',e1,_⟩ := cG b z
      rw [cK b o z e1] at e
      cases e
      exact kn_ok e1
    · rw [out2 b z] at e
      exact (I.hok b u e).stay (fun _ _ _ q => q) (fun d q => same d _ q) fun d xs q => same d _ q
  have e0 := I.env0
  have e2 : Env0 X.prog X.w X.K X.mg X.base X.A X.stack s H2 := by
    refine ⟨e0.frames,e0.mod,fun b o e => ⟨(e0.bs b o e).1,?_⟩,e0.bsz,e0.funs,fun b hb => ?_,hok2,e0.bare⟩
    · rw [out2 b fun z => absurd (Nat.lt_of_lt_of_le (Heap.lt_size e) (Nat.le_trans I.ok.bsz (cA b z))) (Nat.lt_irrefl _)]
      exact (e0.bs b o e).2
    · rw [out2 b (frn b hb)]
      exact e0.frf b hb
  have cells : ∀ p ∈ cs,∀ v,σ[p.2]? = some (some v) → CellAt H2 p.1 v := fun p hp v hv => by
    obtain ⟨y,h1,h2,h3,h4⟩ := hcs p hp
    obtain ⟨m,hn,hl⟩ := I.loc
    obtain ⟨u,ru,l⟩ := hl p.2 y v h2 hv h4
    rcases l with ⟨kk,_⟩ | ⟨_,c,hc,o,ho,hd⟩
    · rw [h3] at kk; cases kk
    · rw [h1] at hc
      cases hc
      exact ⟨o,u,cK _ o ⟨y,h1⟩ ho,hd,ru⟩
  have hq := h H2 same cells
  have hl : (us ++ []).length = ps.length := by rw [List.append_nil,← r.length]; exact F.len _ _ _ _ hq
  have hbb := hb s us I.kIn hl
  rw [List.append_nil] at hbb
  refine wpAny_call (codeAny_mono (F.run X.A X.stack s H2 ⟨us,[]⟩ us vs _ E0 hr e2 hbb r hq) fun r s' hq => ?_)
  cases r with
  | error e => exact False.elim hq
  | ok fl =>
    cases fl with
    | next => exact False.elim hq
    | brk => exact False.elim hq
    | cont => exact False.elim hq
    | ret u =>
      obtain ⟨v,H3,os,bare,un,hok,rv,q⟩ := hq
      let H4 : Hp := fun b => if isC b then none else H3 b
      have in4 : ∀ b,isC b → H4 b = none := fun b z => if_pos z
      have out4 : ∀ b,¬ isC b → H4 b = H3 b := fun b z => if_neg z
      have c3 : ∀ b,isC b → ∃ o,H3 b = some (KnO o) ∧ s.heap.get? b = some o ∧ s'.heap.get? b = some o := fun b z => by
        obtain ⟨o,z',e1,_⟩ := cG b z
        have e3 := un.frzs b o _ (cK b o z e1)
        exact ⟨o,e3,e1,kn_get hok e3⟩
      refine I.after ⟨v,H4,os,bare,⟨fun b o e n hb hx => ?_,fun b o e n hb hx => ?_,fun b o e n hx => ?_,fun b o e hx => un.there b o e hx,fun b xs e => ?_,fun b o u e => ?_,fun b ps e => ?_⟩,fun b u e => ?_,rv,q H4 (fun b o e n => ?_) fun b o e e3 => ?_⟩
      · by_cases z : isC b
        · obtain ⟨o',_,e1,e2⟩ := c3 b z
          rw [e] at e1
          cases e1
          exact e2
        · exact un.keep b o e ((out2 b z).trans n) hb hx
      · exact un.slot b o e ((out2 b (frn b hb)).trans n) hb hx
      · by_cases z : isC b
        · exact in4 b z
        · rw [out4 b z]
          exact un.free b o e ((out2 b z).trans n) hx
      · have z : ¬ isC b := fun z => by rw [cN b z] at e; cases e
        rw [out4 b z]
        exact un.tups b xs ((out2 b z).trans e)
      · have z : ¬ isC b := fun z => by rw [cN b z] at e; cases e
        rw [out4 b z]
        exact un.frzs b o u ((out2 b z).trans e)
      · have z : ¬ isC b := fun z => by rw [cN b z] at e; cases e
        rw [out4 b z]
        exact un.tbls b ps ((out2 b z).trans e)
      · have z : ¬ isC b := fun z => by rw [in4 b z] at e; cases e
        rw [out4 b z] at e
        refine (hok b u e).stay (fun _ _ _ q => q) (fun d q => ?_) fun d xs q => ?_
        · rw [out4 d fun z => by obtain ⟨o,e3,_⟩ := c3 d z; rw [e3] at q; cases q]; exact q
        · rw [out4 d fun z => by obtain ⟨o,e3,_⟩ := c3 d z; rw [e3] at q; cases q]; exact q
      · rw [out4 b fun z => by obtain ⟨o',e3,_⟩ := c3 b z; rw [e3] at e; exact n o' (Option.some.inj e).symm]
        exact e
      · rw [out4 b fun z => by rw [cN b z] at e; cases e]
        exact e3
theorem pe_fnL (F : Fn X.prog X.w X.K X.mg X.base x ps k sp) (hr : Room k X.A) (hg : Gl X x) (hfn : ∀ x,X.fn x = true) (hcs : ∀ p ∈ cs,∃ y,X.env.cells.lookup y = some p.1 ∧ X.N[p.2]? = some y ∧ X.env.kindOf y = some .cell ∧ Vis X.env.scope y) (ha : PA X (e :: es) t)
    (hdb : (x == ("__debug__" : Str)) = false := by decide) (he : starEach (e :: es) X.env = (false,eval e X.env) :: starEach es X.env := by rfl) (hpl : (backTo pos (starEach es X.env)).any (·.1) = false := by rfl) :
    PE X (.Call (.Name x p) (e :: es) [] pos) (tCallL cs sp t) := by
  obtain ⟨f,fd,o,hm,hk,hb,_,G⟩ := F.ex
  intro pins s σ H Q I h
  refine wpAny_Call_Name_kw (ld_glob I hg hm ?_ hdb)
  refine PySem.W.callWith_K (h₀ := X.base) I.ok.mod.kin hk (thn (ha pos pins s σ H _ I h) fun us s1 ⟨vs,H1,I1,r,q⟩ => ⟨I1.kIn,?_⟩) he hpl
  exact run_fnL G hr (.all hb) hfn hcs I1 r q
def IsFn (P : Program) (w : World) (K : PySem.W.Frag) (mg : Str → Option Value) (base : Heap) (k : Nat) (f : Addr) (sp : Sp) : Prop := ∃ (fd : FuncData) (ps : List Str),FnOk P w K mg base CX0 k f fd ps sp ∧ Binds K fd ps []
def FObj (H : Hp) (f : Addr) : Prop := ∃ o fd,H f = some (KnO o) ∧ o.data = .func fd
def tCallV (P : Program) (w : World) (K : PySem.W.Frag) (mg : Str → Option Value) (base : Heap) (k i : Nat) (t : TA) : TE := fun σ H Q =>
  ∃ f sp,σ[i]? = some (some (.ref f)) ∧ IsFn P w K mg base k f sp ∧ FObj H f ∧ t σ H fun vs H1 => FObj H1 f ∧ sp vs H1 Q E0
theorem pe_callV {i : Nat} (hr : Room k X.A) (hN : X.N[i]? = some x) (hv : Vis X.env.scope x) (ha : PA X (e :: es) t)
    (hdb : (x == ("__debug__" : Str)) = false := by decide) (hcd : (x == ("__classdict__" : Str)) = false := by decide) (he : starEach (e :: es) X.env = (false,eval e X.env) :: starEach es X.env := by rfl) (hpl : (backTo pos (starEach es X.env)).any (·.1) = false := by rfl) :
    PE X (.Call (.Name x p) (e :: es) [] pos) (tCallV X.prog X.w X.K X.mg X.base k i t) := by
  intro pins s σ H Q I h
  obtain ⟨f,sp,hs,⟨fd',ps',G',hb⟩,⟨o,fd,eo,ed⟩,h⟩ := h
  refine wpAny_Call_Name_kw (thn (pe_var (i := i) hN hv hdb hcd pins s σ H (fun v H' => v = .ref f ∧ H' = H) I ⟨_,hs,rfl,rfl⟩) fun u s1 ⟨v,H1,I1,rv,ev,eH⟩ => ?_)
  subst ev eH
  obtain rfl : u = Value.ref f := rv
  have at' : ∀ {s : Shared} {H : Hp} {o : Obj} {fd : FuncData},HOk X.prog X.w H s.heap → H f = some (KnO o) → o.data = .func fd → FnAt f s.heap := fun {s H o fd} k e d => by
    have g := kn_get k e
    obtain ⟨oc,od,dt,sl⟩ := o
    cases d
    exact ⟨oc,od,fd,sl,g⟩
  refine callWith_F (at' I1.hok eo ed) (thn (ha pos pins s1 σ H1 _ I1 h) fun us s2 ⟨vs,H2,I2,r,⟨o2,fd2,eo2,ed2⟩,q⟩ => ⟨at' I2.hok eo2 ed2,?_⟩) he hpl
  exact run_fn (ds := []) (dvs := []) G' hr hb .nil pass0 I2 r (by rw [List.append_nil]; exact q)
theorem LamAt.obj {H : Hp} {f : Addr} {q : Str} {params : Arguments} {body : Expr} {scope : Scope} {clos : List (Str × Addr)} (t : LamAt H f q params body scope clos) : FObj H f := by
  obtain ⟨pm,c,ctv,e,_⟩ := t
  exact ⟨_,_,e,rfl⟩
end
structure DfT (K : PySem.W.Frag) (mg : Str → Option Value) (x : Str) (st : Stmt) (p : Addr) : Prop where
  ex : ∃ (f : Addr) (oc : Value) (od : Option Addr) (kV doc pm : Value) (an : Option Addr) (c : Addr) (ct : Value) (osl : Array (Option Value)),
    mg x = some (.ref f) ∧ K.lookup f = some ⟨oc,od,.func (PySem.W.fnOf x x (defArgs st) (defBody st) (defScope st) .none kV doc pm an (.ref c) ct),osl⟩ ∧ PySem.W.codeIn K (.ref c) x = true ∧ PySem.W.keepIn K (.ref f) = true ∧ CodeF K c p
theorem DfT.fn {P : Program} {w : World} {K : PySem.W.Frag} {mg : Str → Option Value} {base : Heap} {x : Str} {st : Stmt} {p : Addr} {N ps : List Str} {k : Nat} {sp : Sp} (D : DfT K mg x st p) (S : FnScope N ps (defScope st))
    (hbind : ∀ (kV doc pm : Value) (an : Option Addr) (cdv ct : Value) (us : List Value),us.length = ps.length → bindArgs (PySem.W.fnOf x x (defArgs st) (defBody st) (defScope st) .none kV doc pm an cdv ct) ⟨us,[]⟩ = pure (ps.zip us))
    (len : ∀ vs H Q E,sp vs H Q E → vs.length = ps.length)
    (hbody : ∀ (f : Addr) (cdv : Value) (A : Around) (outer : List Env) (s : Shared) (H : Hp) (vs : List V) (Q : VK) (E : XK),(∃ c,cdv = .ref c ∧ CodeF K c p) → Room k (A.deeper (envOfC x (defScope st) s.heap.objs.size f cdv)) → sp vs H Q E →
      ∃ t,PSs (cxOf CX0 P w K mg base N x (defScope st) f cdv A outer s H E).nox (defBody st) t ∧ t { nx := fun _ H' => Q .non H',rt := Q } (start N vs) H) : Fn P w K mg base x ps (k + 1) sp := by
  obtain ⟨f,oc,od,kV,doc,pm,an,c,ct,osl,hm,lk,hcd,hk,hc⟩ := D.ex
  refine ⟨⟨f,_,_,hm,hk,hbind kV doc pm an (.ref c) ct,⟨lk,rfl⟩,fn_of lk hcd S len fun A outer s H vs Q E hr hsp => ?_⟩⟩
  obtain ⟨t,h,q⟩ := hbody f (.ref c) A outer s H vs Q E ⟨c,rfl,hc⟩ hr hsp
  exact ⟨t,h.nox,q⟩
def callArg (s : Stmt) (i : Nat) : Expr := match s with
  | .Assign _ (.Call _ as _ _) _ => as.getD i (.Name "" ⟨0,0,0,0⟩)
  | _ => .Name "" ⟨0,0,0,0⟩
def lamScope (e : Expr) : Scope := match e with
  | .Lambda _ _ sc _ => sc
  | _ => { kind := .function,names := [],isGenerator := false,isCoroutine := false }
def lamArgs (e : Expr) : Arguments := match e with
  | .Lambda a _ _ _ => a
  | _ => { posonlyargs := [],args := [],vararg := none,kwonlyargs := [],kw_defaults := [],kwarg := none,defaults := [] }
def lamBody (e : Expr) : Expr := match e with
  | .Lambda _ b _ _ => b
  | _ => .Name "" ⟨0,0,0,0⟩
def lamPos (e : Expr) : Pos := match e with
  | .Lambda _ _ _ p => p
  | _ => ⟨0,0,0,0⟩
theorem cut_keep {C : List Addr} {H : Hp} {b : Addr} {o : HO} (hC : ∀ c ∈ C,∃ o,H c = some (KnO o)) (e : H b = some o) (n : ∀ z,o ≠ KnO z) : cut C H b = some o := by
  rw [cut_out fun z => ?_]
  · exact e
  · obtain ⟨o',e'⟩ := hC b z
    rw [e] at e'
    exact n o' (Option.some.inj e')
theorem SameP.keep {p : Addr} {H H' : Hp} {b : Addr} {o : HO} {ls : List (Pos × Str)} (s : SameP p H H') (t : Tab H p ls) (e : H b = some o) (n : ∀ ps,o ≠ .tbl ps) : H' b = some o := by
  obtain ⟨ps,e1,_⟩ := t
  refine s b o (fun z => ?_) e
  rw [z,e1] at e
  exact n ps (Option.some.inj e).symm
theorem cells_kn {H : Hp} {cl : List (Str × Addr)} {ws : List V} (cs : Paired (fun (p : Str × Addr) z => CellAt H p.2 z) cl ws) : ∀ c ∈ cl.map (·.2),∃ o,H c = some (KnO o) := by
  induction cs with
  | nil => intro c h; cases h
  | cons a r ih =>
    intro c h
    rcases List.mem_cons.mp h with rfl | h
    · obtain ⟨o,u,e,_⟩ := a
      exact ⟨o,e⟩
    · exact ih c h
theorem CellAt.mono {H H' : Hp} {c : Addr} {v : V} (x : CellAt H c v) (s : Same H H') : CellAt H' c v := let ⟨o,u,e,r⟩ := x; ⟨o,u,s _ _ e,r⟩
end L2
namespace L2
open PySem PySem.Spec PyProof.Rows
structure CompM (X : Cx) (scope : Scope) (cl : List (Str × Addr)) (xs : List Str) (fv : List (Str × Nat)) : Prop where
  clos : closureFor scope X.env = pure cl
  kind : scope.kind = .function
  cell : ∀ y ∈ scope.names,y.2 ≠ .cell
  names : ∀ y ∈ scope.names,y.2 = .local → scope.names.lookup y.1 = some .local
  own : ∀ x ∈ xs,scope.names.lookup x = some .local
  cells : ∀ p ∈ cl,X.env.cells.lookup p.1 = some p.2
  has : ((relabel scope X.env).names.all fun q => !(q.2 == .cell || q.2 == .free) || (cl.lookup q.1).isSome) = true
  nd : (xs ++ fv.map (·.1)).Nodup
  slot : ∀ p ∈ fv,X.N[p.2]? = some p.1 ∧ X.env.kindOf p.1 = some .cell ∧ Vis X.env.scope p.1 ∧ (cl.lookup p.1).isSome = true ∧ ((relabel scope X.env).names.lookup p.1 = some .cell)
  stk : X.stack = X.env :: X.outer ∧ X.env.frame = some X.env.locals
  noex : X.ex = []
def PTs (X : Cx) (ifs : List Expr) (tc : TT) : Prop :=
  ∀ (pins : List (Addr × Obj)) (s : Shared) (σ : St) (H : Hp) (Q : Bool → Hp → Prop),Inv X pins σ H s → tc σ H Q →
    wpAny (model X.prog X.w) X.A (forIn ifs true fun c r => if r = true then do let ok ← isTrue c X.env (eval c X.env); pure (ForInStep.yield ok) else pure (ForInStep.yield r)) (fun b s' => ∃ H',Inv X pins σ H' s' ∧ Q b H') X.xe s
def tYes : TT := fun _ H Q => Q true H
theorem pts_nil {X : Cx} : PTs X [] tYes := fun pins s σ H Q I h => wpAny_tests_nil ⟨H,I,h⟩
theorem compLoop_go {prog : Program} {w : World} {A : Around} {R : Result → Shared → Prop} {s : Shared} {elt target iter : Expr} {ifs : List Expr} {scope : Scope} {pos : Pos} {it acc : Value} {env : Env} (I : Nat → Shared → Prop)
    (turn : ∀ n s,I n s → wpAny (model prog w) A (pyNext it) (fun r s₁ => match r with
      | none => R (.ok .next) s₁
      | some v => wpAny (model prog w) A (letOwnedTupleGo target it v) (fun _ s₀ => wpAny (model prog w) A (assign target env v) (fun _ s₂ =>
          wpAny (model prog w) A (forIn ifs true fun c r => if r = true then do let ok ← isTrue c env (eval c env); pure (ForInStep.yield ok) else pure (ForInStep.yield r)) (fun ok s₃ =>
            if ok = true then wpAny (model prog w) A (eval elt env) (fun x s₄ =>
              wpAny (model prog w) A (call (.builtin "list.append") [acc,x]) (fun _ s₅ => ∃ m,m < n ∧ I m s₅) (notedBy (model prog w) A env fun e s' => R (.error e) s') s₄) (notedBy (model prog w) A env fun e s' => R (.error e) s') s₃
            else ∃ m,m < n ∧ I m s₃) (notedBy (model prog w) A env fun e s' => R (.error e) s') s₂) (notedBy (model prog w) A env fun e s' => R (.error e) s') s₀) (notedBy (model prog w) A env fun e s' => R (.error e) s') s₁) (notedBy (model prog w) A env fun e s' => R (.error e) s') s)
    (n : Nat) (h : I n s) : codeAny (model prog w) A (.compLoop (.ListComp elt [⟨target,iter,ifs,0⟩] scope pos) 0 it acc env) R s := by
  refine codeAny_loop rfl I (fun n s hI => ?_) n h
  show wpAny _ A ((compTurn (.ListComp elt [⟨target,iter,ifs,0⟩] scope pos) 0 it acc env).onRaise (fun x => do noteFrame x env; theTreesLotGoes x)) _ _ s
  refine wpAny_noted ?_
  rw [compTurn_list]
  refine wpAny_bind (wpAny_standAt (wpAny_bind (wpAny_mono (turn n s hI) (fun r s₁ h₁ => ?_) fun _ _ h' => h')))
  cases r with
  | none => exact wpAny_pure h₁
  | some v =>
    refine wpAny_bind (wpAny_mono h₁ (fun _ s₀ h₀ => ?_) fun _ _ h' => h')
    refine wpAny_bind (wpAny_mono h₀ (fun _ s₂ h₂ => wpAny_bind (wpAny_mono h₂ (fun ok s₃ h₃ => ?_) fun _ _ h' => h')) fun _ _ h' => h')
    cases ok with
    | false => exact wpAny_pure ⟨rfl,h₃⟩
    | true => exact wpAny_bind (wpAny_bind (wpAny_mono h₃ (fun x s₄ h₄ => wpAny_bind (wpAny_mono h₄ (fun _ s₅ h₅ => wpAny_pure (wpAny_pure ⟨rfl,h₅⟩)) fun _ _ h' => h')) fun _ _ h' => h'))
def CompAtG (J : It) (n : Nat) (fv : List (Str × Nat)) (g : TG) (tc : TT) (te : TE) (σ : St) (H1 : Hp) (Q : VK) : Prop := ∀ p,H1 p = none → ∃ W : Nat → Nat → List V → Hp → Prop,(∃ m,W 0 m [] (upd H1 p (.lst []))) ∧ ∀ i m acc H2,W i m acc H2 →
  H2 p = some (.lst acc) ∧ acc.length < sizeLine ∧ ((J.stop i H2 ∧ Q (.ref p) H2) ∨ (J.go i H2 ∧ ∀ x H3,J.yld i H2 x H3 → ∀ τ : St,τ.length = n → g x (τ ++ fvs fv σ) H3 fun σ2 H4 => (∃ τ' : St,τ'.length = n ∧ σ2 = τ' ++ fvs fv σ) ∧
    tc σ2 H4 fun b H5 => if b = true then te σ2 H5 (fun y H6 => H6 p = some (.lst acc) ∧ ∃ m',m' < m ∧ W (i + 1) m' (acc ++ [y]) (upd H6 p (.lst (acc ++ [y])))) else ∃ m',m' < m ∧ W (i + 1) m' acc H5))
def tCompG (wi : TI) (n : Nat) (fv : List (Str × Nat)) (g : TG) (tc : TT) (te : TE) : TE := fun σ H Q => wi σ H fun J H1 => CompAtG J n fv g tc te σ H1 Q
section
variable {X : Cx} {scope : Scope} {cl : List (Str × Addr)} {xs : List Str} {fv : List (Str × Nat)} {elt iter tg : Expr} {ifs : List Expr} {pos : Pos} {te : TE} {tc : TT} {g : TG}
theorem blk_okG {pins : List (Addr × Obj)} {σ : St} {H : Hp} {s : Shared} {fp : List Addr} (C : CompM X scope cl xs fv) (I : Inv X pins σ H s) (hf : ∀ b ∈ fp,FpOk X pins H b) (ho : ∀ b ∈ fp,b < s.heap.objs.size) : (X.blk (xs ++ fv.map (·.1)) scope cl fp s H).Ok := by
  have hcl : ∀ y c,cl.lookup y = some c → X.env.cells.lookup y = some c := fun y c h => C.cells _ (lookup_mem h)
  have old : ∀ b ∈ fp,X.s₀.heap.objs.size ≤ b := fun b hb => by
    rcases (hf b hb).2.2.2.1 with z | z
    · rw [C.noex] at z
      cases z
    · exact z
  refine ⟨I.ok.mod,by show (relabel scope X.env).kind = _; exact C.kind,I.ok.glob,I.ok.blt,Nat.le_refl _,fun y z c h1 h2 => I.ok.inj y z c (hcl y c h1) (hcl z c h2),fun y hy => ?_,(fun y c h => by cases h),I.ok.hd,I.ok.frames,.inl rfl,fun b hb => ?_,fun b o e => I.bs b o e,Nat.le_trans I.ok.bsz I.sz,fun b o e hb => ?_,fun b hb hm => ?_,I.stack,I.stkFree⟩
  · have q := C.has
    rw [List.all_eq_true] at q
    have hm : ∃ k,(y,k) ∈ (relabel scope X.env).names ∧ (k = .cell ∨ k = .free) := by
      rcases hy with hy | hy
      · exact ⟨_,lookup_mem hy,.inl rfl⟩
      · exact ⟨_,lookup_mem hy,.inr rfl⟩
    obtain ⟨k,hk,hk2⟩ := hm
    have q2 := q _ hk
    have q3 : (cl.lookup y).isSome = true := by
      rcases hk2 with rfl | rfl
      · simpa using q2
      · simpa using q2
    exact Option.isSome_iff_exists.mp q3
  · obtain ⟨f0,f1,f2,f3,f4,f5⟩ := hf b hb
    refine ⟨?_,fun y c h => f4 y c (hcl y c h)⟩
    exact Nat.ne_of_lt (ho b hb)
  · have z := Heap.lt_size e
    have z2 := old b hb
    exact absurd (Nat.lt_of_lt_of_le z (Nat.le_trans I.ok.bsz z2)) (Nat.lt_irrefl _)
  · obtain ⟨f0,f1,f2,f3,f4,f5⟩ := hf b hb
    rcases List.mem_cons.mp (I.stkSub b hm) with z | z
    · exact f1 z
    · exact f2 z
theorem blk_invG {pins : List (Addr × Obj)} {σ : St} {H : Hp} {s s4 : Shared} {fp : List Addr} (C : CompM X scope cl xs fv) (I : Inv X pins σ H s) (hf : ∀ b ∈ fp,FpOk X pins H b) (ho : ∀ b ∈ fp,b < s.heap.objs.size)
    (hs : s4.os = s.os ∧ s4.gens = s.gens) (ns : s4.heap.Ns s.heap.objs.size fun _ => none) (kp : ∀ b o,s.heap.get? b = some o → s4.heap.get? b = some o) :
    Inv (X.blk (xs ++ fv.map (·.1)) scope cl fp s H) [] (List.replicate xs.length none ++ fvs fv σ) H s4 := by
  have hcl : ∀ y c,cl.lookup y = some c → X.env.cells.lookup y = some c := fun y c h => C.cells _ (lookup_mem h)
  refine ⟨blk_okG C I hf ho,hs.1,by rw [hs.2]; exact I.bare,Un.kept kp,⟨_,ns,fun i y v e1 e2 e3 => ?_⟩,fun y c h => ?_,I.hok.fresh (Nat.le_refl _),fun y c h => I.freeC y c (hcl y c h),fun p hp => by simp at hp,I.hok.kept kp,by simp [fvs]⟩
  · by_cases hi : i < xs.length
    · rw [List.getElem?_append_left (by rw [List.length_replicate]; exact hi),List.getElem?_replicate] at e2
      simp [hi] at e2
    · obtain ⟨j,rfl⟩ : ∃ j,i = xs.length + j := ⟨i - xs.length,by omega⟩
      have e1' : (fv.map (·.1))[j]? = some y := by
        have z : (xs ++ fv.map (·.1))[xs.length + j]? = some y := e1
        rw [List.getElem?_append_right (by omega)] at z
        simpa using z
      have e2' : (fvs fv σ)[j]? = some (some v) := by
        rw [List.getElem?_append_right (by rw [List.length_replicate]; omega),List.length_replicate] at e2
        simpa using e2
      rw [List.getElem?_map] at e1'
      unfold fvs at e2'
      rw [List.getElem?_map] at e2'
      cases hq : fv[j]? with
      | none =>
        rw [hq] at e1'
        cases e1'
      | some q =>
        rw [hq] at e1' e2'
        have ey : q.1 = y := Option.some.inj e1'
        have ev : (σ[q.2]?).join = some v := Option.some.inj e2'
        have hm : q ∈ fv := List.mem_of_getElem? hq
        obtain ⟨s1,s2,s3,s4',s5⟩ := C.slot q hm
        have ev2 : σ[q.2]? = some (some v) := by
          cases hz : σ[q.2]? with
          | none =>
            rw [hz] at ev
            cases ev
          | some z =>
            rw [hz] at ev
            have ev' : z = some v := ev
            rw [ev']
        obtain ⟨m,hn,hl⟩ := I.loc
        obtain ⟨u,r,lk⟩ := hl q.2 q.1 v s1 ev2 s3
        obtain ⟨c,hc⟩ := Option.isSome_iff_exists.mp s4'
        refine ⟨u,r,.inr ⟨.inl (by rw [← ey]; exact s5),c,by rw [← ey]; exact hc,?_⟩⟩
        rcases lk with ⟨k,_⟩ | ⟨_,c',hc',z⟩
        · rw [s2] at k
          cases k
        · rw [hcl _ _ hc] at hc'
          cases hc'
          obtain ⟨o,ho',hd⟩ := z
          exact ⟨o,kp _ _ ho',hd⟩
  · obtain ⟨v,o,ho',hd⟩ := I.cell y c (hcl y c h)
    exact ⟨v,o,kp _ _ ho',hd⟩
theorem blk_runG {pins : List (Addr × Obj)} {σ : St} {H2 : Hp} {s2 : Shared} {it : Addr} {fp : List Addr} {tn : Nat → Heap → Prop} {J : It} {RR : Value → Addr → Result → Shared → Prop} {E : Value → Shared → Prop} {Qf : V → Hp → Prop}
    (hcalm : X.calm = true) (C : CompM X scope cl xs fv) (I2 : Inv X pins σ H2 s2) (T : Turn X.prog X.w X.K tg J fp it tn) (st : tn 0 s2.heap) (f2 : ∀ b ∈ fp,FpOk X pins H2 b)
    (rd : CompAtG J xs.length fv g tc te σ H2 Qf)
    (hg : ∀ (s₀ : Shared) (H₀ : Hp),PG (X.blk (xs ++ fv.map (·.1)) scope cl fp s₀ H₀) tg g) (ht : ∀ (s₀ : Shared) (H₀ : Hp),PTs (X.blk (xs ++ fv.map (·.1)) scope cl fp s₀ H₀) ifs tc)
    (he : ∀ (s₀ : Shared) (H₀ : Hp),PE (X.blk (xs ++ fv.map (·.1)) scope cl fp s₀ H₀) elt te)
    (hRR : ∀ (p C : Addr) (H' : Hp) (s' : Shared),(∃ m,s'.heap.Ns C m) → C ≠ X.env.locals → H' C = none → X.s₀.heap.objs.size ≤ C → (∀ y c,X.env.cells.lookup y = some c → c ≠ C) → (∀ q ∈ X.pn ++ pins,q.1 ≠ C) → Inv X pins σ H' s' → Qf (.ref p) H' → RR (.ref p) C (.ok .next) s') :
    wpAny (model X.prog X.w) X.A (newList []) (fun acc s₃ => wpAny (model X.prog X.w) X.A (newFunctionEnv scope X.env.globals cl [] X.env.qual none .none (some X.env)) (fun cenv s₄ =>
      codeAny (model X.prog X.w) X.A (.compStart (.ListComp elt [⟨tg,iter,ifs,0⟩] scope pos) 0 (.ref it) acc { cenv with scope := relabel scope X.env }) (RR acc cenv.locals) s₄) E s₃) E s2 := by
  refine wpAny_newObj_type ?_
  have hfresh := I2.fresh
  have I3 : Inv X pins σ (upd H2 s2.heap.objs.size (.lst [])) { s2 with heap := s2.heap.push { cls := .type "list",data := .seq ([] : List Value).toArray } } :=
    I2.laid (t' := s2.toks) (fun b u q => Heap.get?_push_of_some _ q) (Nat.le_refl _) ⟨Nat.zero_le _,[],0,.nil,Heap.get?_push_size _ rfl⟩
  generalize hs3 : ({ s2 with heap := s2.heap.push { cls := .type "list",data := .seq ([] : List Value).toArray } } : Shared) = s3 at I3 ⊢
  have hp3 : s2.heap.objs.size < s3.heap.objs.size := by rw [← hs3]; exact Nat.lt_of_lt_of_le (Nat.lt_succ_self _) (Nat.le_of_eq (Heap.size_push _ _).symm)
  have k23 : ∀ b o,s2.heap.get? b = some o → s3.heap.get? b = some o := fun b o e => by rw [← hs3]; exact Heap.get?_push_of_some _ e
  have fpo : ∀ b ∈ fp,b < s2.heap.objs.size := fun b hb => by
    obtain ⟨o,e,_⟩ := T.obj 0 _ st b hb
    exact Heap.lt_size e
  have f3 : ∀ b ∈ fp,FpOk X pins (upd H2 s2.heap.objs.size (.lst [])) b := fun b hb => ⟨by rw [upd_ne (Nat.ne_of_lt (fpo b hb))]; exact (f2 b hb).1,(f2 b hb).2⟩
  refine wpAny_newFunctionEnv C.cell (by intro y hy; simp at hy) (fun h1 hns1 hsb1 => ?_) C.kind
  have kp : ∀ b o,s3.heap.get? b = some o → h1.get? b = some o := fun b o e => (hsb1.2 b (Nat.ne_of_lt (Heap.lt_size e))).trans (Heap.get?_push_of_some _ e)
  have I4 := blk_invG (s4 := { s3 with heap := h1,toks := s3.toks + ([] : List (Str × Value)).length }) C I3 f3 (fun b hb => Nat.lt_trans (fpo b hb) hp3) ⟨rfl,rfl⟩ hns1 kp
  have st4 : tn 0 h1 := T.keep 0 _ _ st fun b _ o e => kp b o (k23 b o e)
  obtain ⟨W,⟨m0,w0⟩,step⟩ := rd _ hfresh
  have loop : codeAny (model X.prog X.w) X.A (.compLoop (.ListComp elt [⟨tg,iter,ifs,0⟩] scope pos) 0 (.ref it) (.ref s2.heap.objs.size) (compEnvC scope cl s3.heap.objs.size X.env)) (RR (.ref s2.heap.objs.size) s3.heap.objs.size)
      { s3 with heap := h1,toks := s3.toks + ([] : List (Str × Value)).length } := by
    refine compLoop_go (fun n s => ∃ i acc τ H',τ.length = xs.length ∧ Inv (X.blk (xs ++ fv.map (·.1)) scope cl fp s3 (upd H2 s2.heap.objs.size (.lst []))) [] (τ ++ fvs fv σ) H' s ∧ tn i s.heap ∧ (∀ b ∈ fp,H' b = none) ∧ W i n acc H') ?_ m0 ⟨0,[],List.replicate xs.length none,_,List.length_replicate,I4,st4,fun b hb => (f3 b hb).1,w0⟩
    rintro n s ⟨i,acc,τ,H',hτ,I',st',fr',w'⟩
    obtain ⟨hp,hlen,alt⟩ := step i n acc H' w'
    have fpk : ∀ {H5 : Hp},(∀ b ∈ fp,H5 b = none) → ∀ b ∈ fp,FpOk (X.blk (xs ++ fv.map (·.1)) scope cl fp s3 (upd H2 s2.heap.objs.size (.lst []))) [] H5 b := fun h5 b hb =>
      ⟨h5 b hb,(I'.ok.exf b hb).1,I'.ok.exfs b hb,.inl hb,fun y c e => (I'.ok.exf b hb).2 y c e,fun q hq => by simp at hq⟩
    rcases alt with ⟨stop,qf⟩ | ⟨go,turn⟩
    · refine wpAny_mono (T.done (X.blk (xs ++ fv.map (·.1)) scope cl fp s3 (upd H2 s2.heap.objs.size (.lst []))) rfl rfl rfl hcalm i [] s _ H' (fun _ _ => False) I' (fpk fr') st' stop) (fun r s5 ⟨hr,I5⟩ => ?_) fun _ _ z => False.elim z
      subst hr
      refine hRR _ _ H' s5 (let ⟨m,hn,_⟩ := I5.loc; ⟨m,hn⟩) (Nat.ne_of_gt I3.lt) I5.free I3.sz (fun y c e => ?_) (fun q hq => ?_) ?_ qf
      · obtain ⟨v,z⟩ := I3.cell y c e
        exact Nat.ne_of_lt z.lt
      · exact Nat.ne_of_lt (Heap.lt_size (I3.pin q hq).1)
      · exact I3.call' (s' := s5) (ch := fp) I5.os I5.base I5.hok I5.bare fun b hb => ⟨(f2 b hb).2.2.2.1,(f2 b hb).2.1,(f2 b hb).2.2.2.2.1,(f2 b hb).2.2.2.2.2⟩
    · refine wpAny_mono (T.item (X.blk (xs ++ fv.map (·.1)) scope cl fp s3 (upd H2 s2.heap.objs.size (.lst []))) rfl rfl rfl hcalm i [] s _ H' (fun _ _ => False) I' (fpk fr') st' go) (fun r s5 ⟨u,hr,h5⟩ => ?_) fun _ _ z => False.elim z
      subst hr
      refine wpAny_mono h5 (fun _ s6 ⟨y,H6,I6,r6,y6,st6,fr6⟩ => ?_) fun _ _ z => False.elim z
      have I6' := I6.pinned (fpk fr6) (T.obj _ _ st6)
      have rt := turn y _ y6 τ hτ
      refine wpAny_mono (hg s3 _ _ s6 _ H6 y u _ I6' r6 rt) (fun _ s7 ⟨σ7,H7,I7,⟨τ',hτ',e7⟩,q7⟩ => ?_) fun _ _ z => False.elim z
      subst e7
      refine wpAny_mono (ht s3 _ _ s7 _ _ _ I7 q7) (fun b s7b ⟨H7b,I7b,q7b⟩ => ?_) fun _ _ z => False.elim z
      have kp6 : ∀ {σ9 : St} {H9 : Hp} {s9 : Shared},Inv (X.blk (xs ++ fv.map (·.1)) scope cl fp s3 (upd H2 s2.heap.objs.size (.lst []))) ([] ++ pinsAt fp s6.heap) σ9 H9 s9 → tn (i + 1) s9.heap ∧ ∀ b ∈ fp,H9 b = none := fun {σ9 H9 s9} I9 => by
        refine ⟨T.keep _ _ _ st6 fun b hb o e => (I9.pin (b,o) (List.mem_append_right _ (List.mem_append_right _ (mem_pinsAt hb e)))).1,fun b hb => ?_⟩
        obtain ⟨o,e,d⟩ := T.obj _ _ st6 b hb
        exact (I9.pin (b,o) (List.mem_append_right _ (List.mem_append_right _ (mem_pinsAt hb e)))).2.1
      cases b with
      | false =>
        obtain ⟨m',hm',w8⟩ := q7b
        exact ⟨m',hm',i + 1,acc,τ',_,hτ',I7b.unpinned,(kp6 I7b).1,(kp6 I7b).2,w8⟩
      | true =>
        refine wpAny_mono (he s3 _ _ s7b _ _ _ I7b q7b) (fun v8 s8 ⟨y8,H8,I8,r8,q8,m',hm',w8⟩ => ?_) fun _ _ z => False.elim z
        refine wpAny_mono (mt_append (X := X.blk (xs ++ fv.map (·.1)) scope cl fp s3 (upd H2 s2.heap.objs.size (.lst []))) _ s8 _ H8 (.ref s2.heap.objs.size) [y8] (.ref s2.heap.objs.size) [v8] (fun _ H9 => H9 = upd H8 s2.heap.objs.size (.lst (acc ++ [y8]))) I8 rfl (.cons r8 .nil) ⟨_,acc,y8,rfl,rfl,q8,hlen,rfl⟩) (fun _ s9 ⟨_,H9,I9,_,e9⟩ => ?_) fun _ _ z => False.elim z
        subst e9
        exact ⟨m',hm',i + 1,acc ++ [y8],τ',_,hτ',I9.unpinned,(kp6 I9).1,(kp6 I9).2,w8⟩
  exact codeAny_compStart_list loop (T.self _ 0 _ _ _ st4 loop)
theorem pe_compG {wi : TI} (hcalm : X.calm = true) (C : CompM X scope cl xs fv) (hi : PI X tg iter wi) (hg : ∀ (fp : List Addr) (s₀ : Shared) (H₀ : Hp),PG (X.blk (xs ++ fv.map (·.1)) scope cl fp s₀ H₀) tg g) (ht : ∀ (fp : List Addr) (s₀ : Shared) (H₀ : Hp),PTs (X.blk (xs ++ fv.map (·.1)) scope cl fp s₀ H₀) ifs tc) (he : ∀ (fp : List Addr) (s₀ : Shared) (H₀ : Hp),PE (X.blk (xs ++ fv.map (·.1)) scope cl fp s₀ H₀) elt te)
    (hs : ∀ v,foldedSetIterable iter X.env v = pure v := by intro _; rfl) : PE X (.ListComp elt [⟨tg,iter,ifs,0⟩] scope pos) (tCompG wi xs.length fv g tc te) := by
  intro pins s σ H Q I h
  rw [eval_ListComp]
  refine wpAny_comprehension_free (use := none) rfl hs C.clos C.kind C.names (wpAny_mono (hi pins s σ H _ I h) (fun v s1 h1 => wpAny_mono h1 (fun itv s2 h2 => ?_) fun _ _ z => z) fun _ _ z => z)
  obtain ⟨it,fp,tn,J,H2,rfl,I2,T,st2,f2,rd⟩ := h2
  refine blk_runG (Qf := Q) hcalm C I2 T st2 f2 rd (hg fp) (ht fp) (he fp) fun p D H' s' ns nL nH n0 nC nP I8 q => ?_
  obtain ⟨m,hn⟩ := ns
  exact ⟨m,hn,fun h'' sb => ⟨.ref p,H',I8.turned (t' := s'.toks) (fun b o hb e => (sb.2 b hb).trans e) nH nL (.inr n0) nC nP,rfl,q⟩⟩
end
def retScopeAll (e : Expr) : Scope := match e with
  | .ListComp _ _ sc _ => sc
  | .Call _ [.ListComp _ _ sc _] _ _ => sc
  | _ => { kind := .function,names := [],isGenerator := false,isCoroutine := false }
end L2
namespace L2
open PySem PySem.Spec PyProof.Rows
end L2
namespace L2
open PySem PySem.Spec PyProof.Rows
end L2
namespace Sk
open PySem PySem.Spec L2
end Sk
namespace Dr
open PySem PySem.Spec L2 Mth Sp1 Sp2 Sp3 Sp7
def But (p : Addr) (H H' : Hp) : Prop := ∀ b o,b ≠ p → H b = some o → H' b = some o
theorem But.refl {p : Addr} {H : Hp} : But p H H := fun _ _ _ e => e
theorem But.trans {p : Addr} {H H1 H2 : Hp} (a : But p H H1) (b : But p H1 H2) : But p H H2 := fun c o n e => b c o n (a c o n e)
theorem But.of {p : Addr} {H H' : Hp} (s : Same H H') : But p H H' := fun c o _ e => s c o e
theorem But.same {p : Addr} {H0 H H' : Hp} (b : But p H H') (s : Same H0 H) (h : H0 p = none) : Same H0 H' := fun c o e => b c o (ne_of_none e h) (s c o e)
theorem But.none {p l : Addr} {H H' : Hp} (b : But p H H') (n : l ≠ p) (h : H' l = none) : H l = none := by
  cases e : H l with
  | none => rfl
  | some o =>
    rw [b l o n e] at h
    cases h
end Dr
namespace Dr
open PySem PySem.Spec L2 Mth Sp1 Sp2 Sp3 Sp7
theorem menuI {K : PySem.W.Frag} {H : Hp} {l : Addr} {xs : List V} {i : Int} {Q : VK} (C : Int → Prop) (e : H l = some (.lst xs)) (h0 : 0 ≤ i) (h1 : i < (xs.length : Int)) (hC : ∀ v ∈ xs,∃ m,v = .int m ∧ C m) (h : ∀ m,C m → Q (.int m) H) : rIxL K (.ref l) (.int i) H Q :=
  menu e h0 h1 fun v hv => by
    obtain ⟨m,rfl,hc⟩ := hC v hv
    exact h m hc
theorem at_crn {qs : Crn} {k : Int} (h0 : 0 ≤ k) (h1 : k < (qs.length : Int)) : ∃ q,qs[k.toNat]? = some q ∧ atI (qs.map fun (q : Addr × Int × Int) => V.ref q.1) k = some (.ref q.1) := by
  have hk : k.toNat < qs.length := by omega
  refine ⟨qs[k.toNat],List.getElem?_eq_getElem hk,?_⟩
  have := atI_nat (xs := qs.map fun (q : Addr × Int × Int) => V.ref q.1) (j := k.toNat) (v := .ref qs[k.toNat].1) (by rw [List.getElem?_map,List.getElem?_eq_getElem hk]; rfl)
  rw [show ((k.toNat : Nat) : Int) = k by omega] at this
  exact this
end Dr
namespace Dr
open PySem
end Dr
namespace PySem
namespace F
end F
section
variable {prog : Program} {w : World} {A : Around} {E : Value → Shared → Prop} {s : Shared}
end
end PySem
namespace L2
open PySem PySem.Spec PyProof.Rows
section
variable {X : Cx} {e : Expr} {te : TE} {p1 p2 q1 q2 : Pos}
end
section
variable {X : Cx}
def rInsA : V → List V → Hp → VK → Prop := fun x vs H Q => ∃ (l : Addr) (xs : List V) (i : Int) (y : V),x = .ref l ∧ vs = [.int i,y] ∧ H l = some (.lst xs) ∧ (0 ≤ i ∧ i ≤ (xs.length : Int)) ∧ xs.length < 1000 ∧ ∀ H',Upd H H' l xs (xs.take i.toNat ++ [y] ++ xs.drop i.toNat) → Q .non H'
theorem ins_eq {its : List Value} {u2 : Value} {i : Int} (h0 : 0 ≤ i) (h1 : i ≤ (its.length : Int)) : (fun xs : Array Value => have k := if i < 0 then (i + (xs.size : Int)).toNat else min i.toNat xs.size; (xs.extract 0 k).push u2 ++ xs.extract k) its.toArray = (its.take i.toNat ++ [u2] ++ its.drop i.toNat).toArray := by
  have hmin : min i.toNat its.toArray.size = i.toNat := by rw [List.size_toArray]; omega
  dsimp only
  rw [if_neg (by omega),hmin]
  simp
  exact List.take_of_length_le (by rw [List.length_drop]; exact Nat.le_refl _)
theorem mt_insA : MtM X "list.insert" rInsA := by
  intro pins s σ H x vs v us Q I rx rv h
  obtain ⟨l,xs,i,y,rfl,rfl,hH,⟨h0,h1⟩,hz,q⟩ := h
  cases rx
  obtain ⟨u1,u2,rfl,r1,r2⟩ := vals2 rv
  obtain ⟨t,rfl⟩ := r1
  obtain ⟨z,its,n,r,hl,e⟩ := I.lstM hH
  have hsz : its.toArray.size ≤ sizeLine := by rw [List.size_toArray]; exact Sp1.sz (by omega)
  have e63 : (2 : Int) ^ 63 = 9223372036854775808 := by decide
  have b1 : -(2 ^ 63) ≤ i := by rw [e63]; omega
  have b2 : i < 2 ^ 63 := by rw [e63]; omega
  have hfit : ¬ (!Builtin.List.listFitsIndex i) = true := by
    rw [fitsIndex_both b1 b2]
    exact Bool.false_ne_true
  have hf := ins_eq (its := its) (u2 := u2) h0 (by omega)
  clear b1 b2 e63
  refine call_meets F.slot_list_insert ⟨_,e,rfl⟩ F.entry_list_insert (F.args_list_insert_3 _ _ _) (AutoSeq1.list_insert_list_int_val_1 l its.toArray n i t u2 hfit hsz) ⟨e,?_⟩
  refine ⟨.non,_,I.lset (its' := its.take i.toNat ++ [u2] ++ its.drop i.toNat) (ys := xs.take i.toNat ++ [y] ++ xs.drop i.toNat) hH e hf (((r.take i.toNat).append (.cons r2 .nil)).append (r.drop i.toNat)) ?_,rfl,q _ (.mk' hH)⟩
  refine Sp1.sz ?_
  simp only [List.length_append,List.length_take,List.length_drop,List.length_cons,List.length_nil]
  omega
end
end L2
namespace L2
open PySem PySem.Spec PyProof.Rows
theorem sliceRange_rev (n : Nat) : sliceRange ((n : Int) - 1) (-1) (-1) = (List.range n).map fun k => n - 1 - k := by
  unfold sliceRange
  have e : (if ((-1 : Int) > 0) then (if (n : Int) - 1 < -1 then (-1 - ((n : Int) - 1) + -1 - 1) / -1 else 0) else (if (n : Int) - 1 > -1 then ((n : Int) - 1 - -1 - -1 - 1) / - -1 else 0)).toNat = n := by
    rw [if_neg (by decide)]
    split
    · rw [show - (-1 : Int) = 1 from rfl,Int.ediv_one]
      omega
    · omega
  show List.map (fun k : Nat => ((n : Int) - 1 + -1 * (k : Int)).toNat) (List.range (if ((-1 : Int) > 0) then (if (n : Int) - 1 < -1 then (-1 - ((n : Int) - 1) + -1 - 1) / -1 else 0) else (if (n : Int) - 1 > -1 then ((n : Int) - 1 - -1 - -1 - 1) / - -1 else 0)).toNat) = _
  rw [e]
  refine List.map_congr_left fun k _ => ?_
  omega
theorem slicePick_rev (its : List Value) : slicePick its.toArray none none (some (-1)) = its.reverse.toArray := by
  unfold slicePick
  have b : sliceBounds none none (some (-1)) its.toArray.size = ((its.length : Int) - 1,-1,-1) := by
    unfold sliceBounds
    simp
  rw [b]
  show (List.filterMap (fun x => its.toArray[x]?) (sliceRange ((its.length : Int) - 1) (-1) (-1))).toArray = _
  rw [sliceRange_rev]
  congr 1
  have key : ∀ (l : List Value),List.filterMap (fun x => l[x]?) ((List.range l.length).map fun k => l.length - 1 - k) = l.reverse := by
    intro l
    have e2 : (List.range l.length).map (fun k => l.length - 1 - k) = (List.range l.length).reverse := by
      refine List.ext_getElem? fun i => ?_
      by_cases hi : i < l.length
      · rw [List.getElem?_map,List.getElem?_range hi,List.getElem?_reverse (by simpa using hi),List.length_range,List.getElem?_range (by omega)]
        rfl
      · rw [List.getElem?_eq_none (by simp; omega),List.getElem?_eq_none (by simp; omega)]
    rw [e2,List.filterMap_reverse]
    congr 1
    have this : ∀ (l : List Value),List.filterMap (fun x => l[x]?) (List.range l.length) = l := by
      intro l
      have h : ∀ n,n ≤ l.length → List.filterMap (fun x => l[x]?) (List.range n) = l.take n := by
        intro n
        induction n with
        | zero => intro _; rfl
        | succ n ih =>
          intro hn
          rw [List.range_succ,List.filterMap_append,ih (by omega),List.take_succ]
          congr 1
      rw [h _ (Nat.le_refl _),List.take_length]
    exact this l
  have k2 := key its
  simpa using k2
section
variable {X : Cx} {e : Expr} {te : TE} {st : Expr} {ts : TO} {pos p2 : Pos}
def tRevS (K : PySem.W.Frag) (te : TE) (ts : TO) : TE := fun σ H Q => te σ H fun x H1 => ts σ H1 fun o H2 => o = some (-1) ∧ ∃ a xs,x = .ref a ∧ SqL K H2 a xs ∧ ∀ p H3,Same H2 H3 → H3 p = some (.lst xs.reverse) → H2 p = none → Q (.ref p) H3
theorem pe_sliceR (he : PE X e te) (hs : PO X (some st) ts) : PE X (.Subscript e (.Slice none none (some st) p2) pos) (tRevS X.K te ts) := by
  intro pins s σ H Q I h
  refine Subscript_ (thn (he pins s σ H _ I h) fun v s1 ⟨x,H1,I1,r1,q1⟩ => ?_)
  refine wpAny_Slice ?_
  rw [evalPart_none]
  refine wpAny_pure ?_
  refine wpAny_pure ?_
  refine thn (hs pins s1 σ H1 _ I1 q1) fun vs s3 ⟨o,H3,I3,ps,q3⟩ => ?_
  obtain ⟨rfl,a,xs,rfl,hx,q⟩ := q3
  have I4 : Inv X pins σ H3 { s3 with heap := s3.heap.push { cls := .type "slice",data := .fields #[.none,.none,vs] } } := I3.kept (t' := s3.toks) fun b ob q => Heap.get?_push_of_some _ q
  cases r1
  obtain ⟨its,r,ht,hz⟩ := I4.list hx
  show wpAny (model X.prog X.w) X.A (subscriptTail e (.Slice none none (some st) p2) (.ref a) (.ref s3.heap.objs.size)) (EP X pins σ Q) X.xe { s3 with heap := s3.heap.push { cls := .type "slice",data := .fields #[.none,.none,vs] } }
  refine tail_any (ops := [.ref a,.ref s3.heap.objs.size]) ht.isList.typeIs slot_list_getitem.lookup ?_ (by with_unfolding_all rfl)
  have hlen := r.length
  refine wpAny_getItem_list_slice ht.isList (Heap.IsSliceOf.new ..) .none .none ps (by decide) ?_ (by rw [List.size_toArray] <;> omega)
  rw [slicePick_rev]
  have hf := I4.hok.fresh (Nat.le_refl _)
  refine ⟨.ref _,upd H3 _ (.lst xs.reverse),I4.laid (fun b ob q => Heap.get?_push_of_some _ q) (Nat.le_refl _) ?_,rfl,q _ _ (Same.new hf) upd_same hf⟩
  exact ⟨by rw [List.length_reverse]; exact hz,_,0,r.reverse,Heap.get?_push_size _ rfl⟩
end
end L2
namespace Wk
open PySem PySem.Spec L2 Mth Sp1 Sp2 Sp3 Sp7 Dr
end Wk
namespace L2
open PySem PySem.Spec PyProof.Rows
theorem pg_tupK {X : Cx} {K : PySem.W.Frag} {pos : Pos} {es : List Expr} {k : Nat} {t : TGs} {n : Nat} (hK : X.K = K) (hc : X.calm = true) (h : PGs X es t)
    (hn : (assignEach es X.env).length = n := by rfl) (hst : (assignEach es X.env).findIdx? (·.1) = none := by rfl) : PG X (.Tuple es k pos) (gTup K n t) := by
  subst hK
  exact pg_tup hc h hn hst
end L2
namespace Fnc
open PySem PySem.Spec L2 Mth Sp1 Sp2 Sp3 Sp7 Dr Wk
end Fnc
namespace Fnc
open PySem PySem.Spec L2 Mth Sp1 Sp2 Sp3 Sp7 Dr Wk
end Fnc
namespace Fnc
open PySem PySem.Spec L2 Mth Sp1 Sp2 Sp3 Sp7 Dr Wk
end Fnc
namespace Sp11
open PySem PySem.Spec L2 Mth Sp1 Sp2
def spRatioN (C : Addr) : Sp := fun vs H Q E => ∃ (a b : Int) (n : Nat),vs = [.int a,.int b] ∧ (bits a ≤ n ∧ bits b ≤ n ∧ n ≤ 4500) ∧ (b = 0 → E (.ref C) none H) ∧
  (b ≠ 0 → ∀ (p : Addr) (t u : Int),Frac a b t u → bits t ≤ n → bits u ≤ n → H p = none → Q (.ref p) (upd H p (.tup [.int t,.int u])))
structure Fr2 (H : Hp) (p : Addr) (a b : Int) (n : Nat) : Prop where
  at_ : H p = some (.tup [.int a,.int b])
  low : Low a b
  ba : bits a ≤ n
  bb : bits b ≤ n
theorem Fr2.mono {H H' : Hp} {p : Addr} {a b : Int} {n : Nat} (f : Fr2 H p a b n) (s : Same H H') : Fr2 H' p a b n := ⟨s _ _ f.at_,f.low,f.ba,f.bb⟩
theorem Fr2.wide {H : Hp} {p : Addr} {a b : Int} {m n : Nat} (f : Fr2 H p a b m) (h : m ≤ n) : Fr2 H p a b n := ⟨f.at_,f.low,bits_le f.ba h,bits_le f.bb h⟩
def spBin (num den : Int → Int → Int → Int → Int) : Sp := fun vs H Q _ => ∃ (p q : Addr) (a b c d : Int) (n : Nat),vs = [.ref p,.ref q] ∧ Fr2 H p a b n ∧ Fr2 H q c d n ∧ n ≤ 2200 ∧ den a b c d ≠ 0 ∧
  ∀ (r : Addr) (t u : Int) (H' : Hp),Frac (num a b c d) (den a b c d) t u → Fr2 H' r t u (2 * n + 1) → Same H H' → Q (.ref r) H'
def numAt (x y t b : Int) : Int := x * b + (y - x) * (t % b)
def spNumAt : Sp := fun vs H Q _ => ∃ (x y : Int) (p : Addr) (t b : Int),vs = [.int x,.int y,.ref p] ∧ Fr2 H p t b 200 ∧ bits x ≤ 60 ∧ bits y ≤ 60 ∧
  ∀ (r : Addr) (u v : Int) (H' : Hp),Frac (numAt x y t b) b u v → Fr2 H' r u v 262 → Same H H' → Q (.ref r) H'
def side0 (qs : List (Addr × Int × Int)) (t b : Int) : Int × Int := (qs.getD (t / b).toNat (0,0,0)).2
def side1 (qs : List (Addr × Int × Int)) (t b : Int) : Int × Int := (qs.getD (min ((t / b).toNat + 1) (qs.length - 1)) (0,0,0)).2
def ptX (qs : List (Addr × Int × Int)) (t b : Int) : Int := numAt (side0 qs t b).1 (side1 qs t b).1 t b
def ptY (qs : List (Addr × Int × Int)) (t b : Int) : Int := numAt (side0 qs t b).2 (side1 qs t b).2 t b
structure PtAt (H : Hp) (r : Addr) (X Y b : Int) (n : Nat) : Prop where
  ex : ∃ (rx ry : Addr) (u v c d : Int),H r = some (.tup [.ref rx,.ref ry]) ∧ Fr2 H rx u v n ∧ Fr2 H ry c d n ∧ Frac X b u v ∧ Frac Y b c d
theorem PtAt.mono {H H' : Hp} {r : Addr} {X Y b : Int} {n : Nat} (p : PtAt H r X Y b n) (s : Same H H') : PtAt H' r X Y b n := by
  obtain ⟨rx,ry,u,v,c,d,e,f,g,h,k⟩ := p.ex
  exact ⟨⟨rx,ry,u,v,c,d,s _ _ e,f.mono s,g.mono s,h,k⟩⟩
def spPoint (C : Addr) : Sp := fun vs H Q E => ∃ (l : Addr) (qs : List (Addr × Int × Int)) (x : V),vs = [.ref l,x] ∧ LineAt H l qs ∧ 1 ≤ qs.length ∧ qs.length ≤ 20 ∧ Thing H x ∧ (placeV ((qs.length : Int) - 1) H x = false → E (.ref C) none H) ∧
  (∀ (p : Addr) (t b : Int),x = .ref p → H p = some (.tup [.int t,.int b]) → Low t b → 0 ≤ t → t ≤ ((qs.length : Int) - 1) * b → bits t ≤ 200 ∧ bits b ≤ 200 ∧
    ∀ (r : Addr) (H' : Hp),PtAt H' r (ptX qs t b) (ptY qs t b) b 262 → Same H H' → Q (.ref r) H')
end Sp11
namespace Sp11
open PySem PySem.Spec L2 Mth Sp1 Sp2
structure PtF (H : Hp) (r : Addr) (u v c d : Int) (n : Nat) : Prop where
  ex : ∃ rx ry : Addr,H r = some (.tup [.ref rx,.ref ry]) ∧ Fr2 H rx u v n ∧ Fr2 H ry c d n
theorem PtF.mono {H H' : Hp} {r : Addr} {u v c d : Int} {n : Nat} (p : PtF H r u v c d n) (s : Same H H') : PtF H' r u v c d n := by
  obtain ⟨rx,ry,e,f,g⟩ := p.ex
  exact ⟨⟨rx,ry,s _ _ e,f.mono s,g.mono s⟩⟩
def spStep : Sp := fun vs H Q _ => ∃ (p q : Addr) (u v c d u' v' c' d' : Int),vs = [.ref p,.ref q] ∧ PtF H p u v c d 262 ∧ PtF H q u' v' c' d' 262 ∧
  ∀ (r : Addr) (a b e f : Int) (H' : Hp),Frac (u' * v - u * v') (v' * v) a b → Frac (c' * d - c * d') (d' * d) e f → PtF H' r a b e f 525 → Same H H' → Q (.ref r) H'
def spInner : Sp := fun vs H Q _ => ∃ (p q : Addr) (a b e f a' b' e' f' : Int),vs = [.ref p,.ref q] ∧ PtF H p a b e f 525 ∧ PtF H q a' b' e' f' 525 ∧
  ∀ (r : Addr) (m n m' n' s w : Int) (H' : Hp),Frac (a * a') (b * b') m n → Frac (e * e') (f * f') m' n' → Frac (m * n' + m' * n) (n * n') s w → Fr2 H' r s w 2103 → Same H H' → Q (.ref r) H'
def sqN (X Y b X' Y' b' : Int) : Int := (X' * b - X * b') * (X' * b - X * b') + (Y' * b - Y * b') * (Y' * b - Y * b')
def sqD (b b' : Int) : Int := (b * b') * (b * b')
def spSqB : Sp := fun vs H Q _ => ∃ (p q : Addr) (X Y b X' Y' b' : Int),vs = [.ref p,.ref q] ∧ PtAt H p X Y b 262 ∧ PtAt H q X' Y' b' 262 ∧ 0 < b ∧ 0 < b' ∧
  ∀ (r : Addr) (s w : Int) (H' : Hp),Frac (sqN X Y b X' Y' b') (sqD b b') s w → Fr2 H' r s w 2103 → Same H H' → Q (.ref r) H'
theorem diff_eq {X b X' b' u v u' v' a e : Int} (hv : v ≠ 0) (hv' : v' ≠ 0) (h1 : X * v = u * b) (h2 : X' * v' = u' * b') (h3 : (u' * v - u * v') * e = a * (v' * v)) : (X' * b - X * b') * e = a * (b * b') := by
  have z : (v * v') * ((X' * b - X * b') * e) = (v * v') * (a * (b * b')) := by
    have z1 : (v * v') * ((X' * b - X * b') * e) = (X' * v' * (b * v) - X * v * (b' * v')) * e := by grind
    rw [z1,h1,h2]
    have z2 : (u' * b' * (b * v) - u * b * (b' * v')) * e = b * b' * ((u' * v - u * v') * e) := by grind
    rw [z2,h3]
    grind
  exact Int.eq_of_mul_eq_mul_left (Int.mul_ne_zero hv hv') z
theorem sq_eq {D B a e m n : Int} (he : e ≠ 0) (h1 : D * e = a * B) (h2 : a * a * n = m * (e * e)) : D * D * n = m * (B * B) := by
  have z : (e * e) * (D * D * n) = (e * e) * (m * (B * B)) := by
    have z1 : (e * e) * (D * D * n) = (D * e) * (D * e) * n := by grind
    rw [z1,h1]
    have z2 : a * B * (a * B) * n = B * B * (a * a * n) := by grind
    rw [z2,h2]
    grind
  exact Int.eq_of_mul_eq_mul_left (Int.mul_ne_zero he he) z
theorem sum_eq {S T G m n m' n' s w : Int} (hn : n ≠ 0) (hn' : n' ≠ 0) (h1 : S * n = m * G) (h2 : T * n' = m' * G) (h3 : (m * n' + m' * n) * w = s * (n * n')) : (S + T) * w = s * G := by
  have z : (n * n') * ((S + T) * w) = (n * n') * (s * G) := by
    have z1 : (n * n') * ((S + T) * w) = (S * n * n' + T * n' * n) * w := by grind
    rw [z1,h1,h2]
    have z2 : (m * G * n' + m' * G * n) * w = G * ((m * n' + m' * n) * w) := by grind
    rw [z2,h3]
    grind
  exact Int.eq_of_mul_eq_mul_left (Int.mul_ne_zero hn hn') z
theorem sq_frac {X Y b X' Y' b' u v c d u' v' c' d' a e a' e' m n m' n' s w : Int} (f1 : Frac X b u v) (f2 : Frac Y b c d) (f3 : Frac X' b' u' v') (f4 : Frac Y' b' c' d') (g1 : Frac (u' * v - u * v') (v' * v) a e) (g2 : Frac (c' * d - c * d') (d' * d) a' e')
    (k1 : Frac (a * a) (e * e) m n) (k2 : Frac (a' * a') (e' * e') m' n') (k3 : Frac (m * n' + m' * n) (n * n') s w) : Frac (sqN X Y b X' Y' b') (sqD b b') s w := by
  refine ⟨k3.low,?_⟩
  have p1 := f1.low.pos
  have p2 := f2.low.pos
  have p3 := f3.low.pos
  have p4 := f4.low.pos
  have p5 := g1.low.pos
  have p6 := g2.low.pos
  have p7 := k1.low.pos
  have p8 := k2.low.pos
  have q1 := diff_eq (by omega) (by omega) f1.eq f3.eq g1.eq
  have q2 := diff_eq (by omega) (by omega) f2.eq f4.eq g2.eq
  have q3 := sq_eq (by omega) q1 k1.eq
  have q4 := sq_eq (by omega) q2 k2.eq
  exact sum_eq (by omega) (by omega) q3 q4 k3.eq
structure Plc (H : Hp) (p : Addr) (t b n : Int) : Prop where
  at_ : H p = some (.tup [.int t,.int b])
  low : Low t b
  lo : 0 ≤ t
  hi : t ≤ n * b
  bt : bits t ≤ 200
  bb : bits b ≤ 200
theorem Plc.mono {H H' : Hp} {p : Addr} {t b n : Int} (f : Plc H p t b n) (s : Same H H') : Plc H' p t b n := ⟨s _ _ f.at_,f.low,f.lo,f.hi,f.bt,f.bb⟩
theorem Plc.th {H : Hp} {p : Addr} {t b n : Int} (f : Plc H p t b n) : Thing H (.ref p) := th_tup f.at_ fun v hv => by
  simp only [List.mem_cons,List.not_mem_nil,or_false] at hv
  rcases hv with rfl | rfl <;> exact ⟨_,.int _⟩
theorem Plc.place {H : Hp} {p : Addr} {t b n : Int} (f : Plc H p t b n) : placeV n H (.ref p) = true := placeV_of f.at_ f.low f.lo f.hi
theorem placeV_same {n : Int} {H H' : Hp} {x : V} {k : String} (kn : Kn H x k) (s : Same H H') : placeV n H' x = placeV n H x := by
  cases kn with
  | non => rfl
  | bl b => rfl
  | int i => rfl
  | str x => rfl
  | lst e => simp only [placeV,e,s _ _ e]
  | tup e => simp only [placeV,e,s _ _ e]
  | dict e => simp only [placeV,e,s _ _ e]
theorem Thing.mono {H H' : Hp} {x : V} (h : Thing H x) (s : Same H H') : Thing H' x := by
  obtain ⟨⟨t,k⟩,pt⟩ := h
  refine ⟨⟨t,k.mono s⟩,fun p xs e1 e2 y hy => ?_⟩
  subst e1
  have e3 : H p = some (.tup xs) := by
    cases k with
    | lst e => rw [s _ _ e] at e2; cases e2
    | tup e => rw [s _ _ e] at e2; cases e2; exact e
    | dict e => rw [s _ _ e] at e2; cases e2
  obtain ⟨t',k'⟩ := pt p xs rfl e3 y hy
  exact ⟨t',k'.mono s⟩
abbrev Crn := List (Addr × Int × Int)
def sqF (qs : Crn) (t b : Int) (qs' : Crn) (t' b' : Int) : Int := sqN (ptX qs t b) (ptY qs t b) b (ptX qs' t' b') (ptY qs' t' b') b'
def lst_ (qs : Crn) : Int := (qs.length : Int) - 1
def spSquare (C : Addr) : Sp := fun vs H Q E => ∃ (l l' : Addr) (qs qs' : Crn) (x y : V),vs = [.ref l,x,.ref l',y] ∧ LineAt H l qs ∧ LineAt H l' qs' ∧ (1 ≤ qs.length ∧ qs.length ≤ 20) ∧ (1 ≤ qs'.length ∧ qs'.length ≤ 20) ∧ Thing H x ∧ Thing H y ∧
  ((placeV (lst_ qs) H x = false ∧ E (.ref C) none H) ∨
   (∃ (p : Addr) (t b : Int),x = .ref p ∧ Plc H p t b (lst_ qs) ∧
     ((placeV (lst_ qs') H y = false ∧ ∀ H',Same H H' → E (.ref C) none H') ∨
      (∃ (q : Addr) (t' b' : Int),y = .ref q ∧ Plc H q t' b' (lst_ qs') ∧
        ∀ (r : Addr) (s w : Int) (H' : Hp),Frac (sqF qs t b qs' t' b') (sqD b b') s w → Fr2 H' r s w 2103 → Same H H' → Q (.ref r) H'))))
theorem crn_bits {H : Hp} {l : Addr} {qs : Crn} (L : LineAt H l qs) (j : Nat) : bits (qs.getD j (0,0,0)).2.1 ≤ 50 ∧ bits (qs.getD j (0,0,0)).2.2 ≤ 50 := by
  rw [List.getD_eq_getElem?_getD]
  by_cases h : j < qs.length
  · rw [List.getElem?_eq_getElem h]
    exact (L.crn _ (List.getElem_mem h)).2
  · rw [List.getElem?_eq_none (by omega)]
    exact ⟨by decide,by decide⟩
theorem num_bits {x y t b : Int} (hb : 0 < b) (bx : bits x ≤ 50) (by' : bits y ≤ 50) (bb : bits b ≤ 200) : bits (numAt x y t b) ≤ 262 := by
  have br : bits (t % b) ≤ 200 := bits_range (Int.emod_nonneg _ (by omega)) (Int.le_of_lt (Int.emod_lt_of_pos _ hb)) bb
  exact bits_le (bits_add (n := 251) (bits_le (bits_mul bx bb) (by decide)) (bits_mul (bits_sub by' bx) br)) (by decide)
theorem pt_bits {H : Hp} {l : Addr} {qs : Crn} {t b : Int} (L : LineAt H l qs) (hb : 0 < b) (bb : bits b ≤ 200) : bits (ptX qs t b) ≤ 262 ∧ bits (ptY qs t b) ≤ 262 :=
  ⟨num_bits hb (crn_bits L _).1 (crn_bits L _).1 bb,num_bits hb (crn_bits L _).2 (crn_bits L _).2 bb⟩
end Sp11
namespace Sp11
open PySem PySem.Spec L2 Mth Sp1 Sp2
def cr (c : Int × Int → Int) (qs : Crn) (j : Nat) : Int := c (qs.getD j (0,0,0)).2
def ptC (c : Int × Int → Int) (qs : Crn) (t b : Int) : Int := numAt (c (side0 qs t b)) (c (side1 qs t b)) t b
theorem pt_on {c : Int × Int → Int} {qs : Crn} {t b : Int} {k : Nat} (hb : 0 < b) (hk : k + 1 < qs.length) (h1 : (k : Int) * b ≤ t) (h2 : t ≤ ((k : Int) + 1) * b) :
    ptC c qs t b = cr c qs k * b + (cr c qs (k + 1) - cr c qs k) * (t - (k : Int) * b) := by
  have e0 := Int.emod_add_mul_ediv t b
  rw [Int.mul_comm] at e0
  have r0 := Int.emod_nonneg t (show b ≠ 0 by omega)
  have r1 := Int.emod_lt_of_pos t hb
  unfold ptC Sp11.numAt side0 side1
  by_cases hlt : t < ((k : Int) + 1) * b
  · have ek : t / b = (k : Int) := by
      refine Int.le_antisymm ?_ (fl_ge hb h1)
      have h3 : t / b < (k : Int) + 1 := Int.ediv_lt_of_lt_mul hb hlt
      omega
    have er : t % b = t - (k : Int) * b := by rw [ek] at e0; omega
    rw [ek,er,Int.toNat_natCast,Nat.min_eq_left (by omega)]
    rfl
  · have et : t = ((k : Int) + 1) * b := by omega
    have ek : t / b = (k : Int) + 1 := by rw [et]; exact Int.mul_ediv_cancel _ (by omega)
    have er : t % b = 0 := by rw [et]; exact Int.mul_emod_left _ _
    rw [ek,er,show ((k : Int) + 1).toNat = k + 1 by omega,Int.mul_zero,Int.add_zero]
    have e2 : t - (k : Int) * b = b := by rw [et,Int.add_mul,Int.one_mul]; omega
    rw [e2]
    show cr c qs (k + 1) * b = _
    generalize cr c qs (k + 1) = x
    generalize cr c qs k = y
    rw [Int.sub_mul]
    omega
def rq (a b : Int) : Rat := (a : Rat) / (b : Rat)
theorem cz {a : Int} (h : a ≠ 0) : (a : Rat) ≠ 0 := fun z => h (Rat.intCast_eq_zero_iff.mp z)
theorem rq_of {m n u v : Int} (f : Frac m n u v) (hn : n ≠ 0) : rq u v = rq m n := by
  have h1 : (m : Rat) * (v : Rat) = (u : Rat) * (n : Rat) := by rw [← Rat.intCast_mul,← Rat.intCast_mul,f.eq]
  have h2 := cz hn
  have h3 := cz (show v ≠ 0 by have := f.low.pos; omega)
  unfold rq
  grind
theorem rq_eq {u v m n : Int} (hv : v ≠ 0) (hn : n ≠ 0) (h : rq u v = rq m n) : u * n = m * v := by
  have h2 := cz hn
  have h3 := cz hv
  unfold rq at h
  have h1 : (u : Rat) * (n : Rat) = (m : Rat) * (v : Rat) := by grind
  rw [← Rat.intCast_mul,← Rat.intCast_mul] at h1
  exact Rat.intCast_inj.mp h1
theorem rq_sub {a b c d : Int} (hb : b ≠ 0) (hd : d ≠ 0) : rq (a * d - c * b) (b * d) = rq a b - rq c d := by
  have := cz hb
  have := cz hd
  unfold rq
  rw [Rat.intCast_sub,Rat.intCast_mul,Rat.intCast_mul,Rat.intCast_mul]
  grind
theorem rq_add {a b c d : Int} (hb : b ≠ 0) (hd : d ≠ 0) : rq (a * d + c * b) (b * d) = rq a b + rq c d := by
  have := cz hb
  have := cz hd
  unfold rq
  rw [Rat.intCast_add,Rat.intCast_mul,Rat.intCast_mul,Rat.intCast_mul]
  grind
theorem rq_mul {a b c d : Int} : rq (a * c) (b * d) = rq a b * rq c d := by
  unfold rq
  rw [Rat.intCast_mul,Rat.intCast_mul]
  grind
theorem rq_div {a b c d : Int} : rq (a * d) (b * c) = rq a b / rq c d := by
  unfold rq
  rw [Rat.intCast_mul,Rat.intCast_mul]
  grind
theorem f_sub {a b c d s w : Int} (hb : b ≠ 0) (hd : d ≠ 0) (f : Frac (a * d - c * b) (b * d) s w) : rq s w = rq a b - rq c d := by
  rw [rq_of f (Int.mul_ne_zero hb hd),rq_sub hb hd]
theorem f_add {a b c d s w : Int} (hb : b ≠ 0) (hd : d ≠ 0) (f : Frac (a * d + c * b) (b * d) s w) : rq s w = rq a b + rq c d := by
  rw [rq_of f (Int.mul_ne_zero hb hd),rq_add hb hd]
theorem f_mul {a b c d s w : Int} (hb : b ≠ 0) (hd : d ≠ 0) (f : Frac (a * c) (b * d) s w) : rq s w = rq a b * rq c d := by
  rw [rq_of f (Int.mul_ne_zero hb hd),rq_mul]
theorem f_div {a b c d s w : Int} (hb : b ≠ 0) (hc : c ≠ 0) (f : Frac (a * d) (b * c) s w) : rq s w = rq a b / rq c d := by
  rw [rq_of f (Int.mul_ne_zero hb hc),rq_div]
theorem nzl {a b : Int} (h : Low a b) : b ≠ 0 := by have := h.pos; omega
theorem frac_bits {m n u v : Int} {i j : Nat} (hn : 0 < n) (f : Frac m n u v) (hm : bits m ≤ i) (hj : bits n ≤ j) : bits u ≤ i ∧ bits v ≤ j := by
  have hg := gcd_pos (a := m) (b := n) (by omega)
  obtain ⟨e1,e2⟩ := frac_unique (by omega) f (frac_pos hn)
  subst e1 e2
  exact ⟨bits_ediv hg hm,bits_ediv hg hj⟩
def nM (X Y b X1 Y1 b1 X2 Y2 b2 : Int) : Int := ((X2 * b1 - X1 * b2) * (X * b1 - X1 * b) + (Y2 * b1 - Y1 * b2) * (Y * b1 - Y1 * b)) * b2
def nN (b X1 Y1 b1 X2 Y2 b2 : Int) : Int := b * ((X2 * b1 - X1 * b2) * (X2 * b1 - X1 * b2) + (Y2 * b1 - Y1 * b2) * (Y2 * b1 - Y1 * b2))
theorem rat_near {x y z X1 Y1 z1 X2 Y2 z2 : Rat} (hz : z ≠ 0) (h1 : z1 ≠ 0) (h2 : z2 ≠ 0) (hN : z * ((X2 * z1 - X1 * z2) * (X2 * z1 - X1 * z2) + (Y2 * z1 - Y1 * z2) * (Y2 * z1 - Y1 * z2)) ≠ 0) :
    ((x / z - X1 / z1) * (X2 / z2 - X1 / z1) + (y / z - Y1 / z1) * (Y2 / z2 - Y1 / z1)) / ((X2 / z2 - X1 / z1) * (X2 / z2 - X1 / z1) + (Y2 / z2 - Y1 / z1) * (Y2 / z2 - Y1 / z1)) =
      (((X2 * z1 - X1 * z2) * (x * z1 - X1 * z) + (Y2 * z1 - Y1 * z2) * (y * z1 - Y1 * z)) * z2) / (z * ((X2 * z1 - X1 * z2) * (X2 * z1 - X1 * z2) + (Y2 * z1 - Y1 * z2) * (Y2 * z1 - Y1 * z2))) := by
  have k1 : x = x / z * z := by grind
  have k2 : y = y / z * z := by grind
  have k3 : X1 = X1 / z1 * z1 := by grind
  have k4 : Y1 = Y1 / z1 * z1 := by grind
  have k5 : X2 = X2 / z2 * z2 := by grind
  have k6 : Y2 = Y2 / z2 * z2 := by grind
  generalize x / z = p at *
  generalize y / z = q at *
  generalize X1 / z1 = a at *
  generalize Y1 / z1 = a' at *
  generalize X2 / z2 = c at *
  generalize Y2 / z2 = c' at *
  subst k1 k2 k3 k4 k5 k6
  have m0 : ∀ {u v : Rat},u ≠ 0 → v ≠ 0 → u * v ≠ 0 := fun hu hv z => by
    rcases Rat.mul_eq_zero.mp z with z | z
    · exact hu z
    · exact hv z
  have hK : z * (z1 * z1) * (z2 * z2) ≠ 0 := m0 (m0 hz (m0 h1 h1)) (m0 h2 h2)
  have e1 : ((c * z2 * z1 - a * z1 * z2) * (p * z * z1 - a * z1 * z) + (c' * z2 * z1 - a' * z1 * z2) * (q * z * z1 - a' * z1 * z)) * z2 = (z * (z1 * z1) * (z2 * z2)) * ((p - a) * (c - a) + (q - a') * (c' - a')) := by grind
  have e2 : z * ((c * z2 * z1 - a * z1 * z2) * (c * z2 * z1 - a * z1 * z2) + (c' * z2 * z1 - a' * z1 * z2) * (c' * z2 * z1 - a' * z1 * z2)) = (z * (z1 * z1) * (z2 * z2)) * ((c - a) * (c - a) + (c' - a') * (c' - a')) := by grind
  rw [e2] at hN
  rw [e1,e2]
  generalize (p - a) * (c - a) + (q - a') * (c' - a') = T at *
  generalize (c - a) * (c - a) + (c' - a') * (c' - a') = S at *
  generalize z * (z1 * z1) * (z2 * z2) = k at *
  have hS : S ≠ 0 := fun z => hN (by rw [z,Rat.mul_zero])
  grind
theorem near_eq {X Y b X1 Y1 b1 X2 Y2 b2 u v c d u1 v1 c1 d1 u2 v2 c2 d2 a e a' e' g h g' h' m n m' n' i j m2 n2 m2' n2' i2 j2 s w : Int} (hb : b ≠ 0) (hb1 : b1 ≠ 0) (hb2 : b2 ≠ 0)
    (f1 : Frac X b u v) (f2 : Frac Y b c d) (f3 : Frac X1 b1 u1 v1) (f4 : Frac Y1 b1 c1 d1) (f5 : Frac X2 b2 u2 v2) (f6 : Frac Y2 b2 c2 d2)
    (g1 : Frac (u2 * v1 - u1 * v2) (v2 * v1) a e) (g2 : Frac (c2 * d1 - c1 * d2) (d2 * d1) a' e') (g3 : Frac (u * v1 - u1 * v) (v * v1) g h) (g4 : Frac (c * d1 - c1 * d) (d * d1) g' h')
    (k1 : Frac (g * a) (h * e) m n) (k2 : Frac (g' * a') (h' * e') m' n') (k3 : Frac (m * n' + m' * n) (n * n') i j) (l1 : Frac (a * a) (e * e) m2 n2) (l2 : Frac (a' * a') (e' * e') m2' n2') (l3 : Frac (m2 * n2' + m2' * n2) (n2 * n2') i2 j2)
    (hi : i2 ≠ 0) (fin : Frac (i * j2) (j * i2) s w) (hN : nN b X1 Y1 b1 X2 Y2 b2 ≠ 0) : s * nN b X1 Y1 b1 X2 Y2 b2 = nM X Y b X1 Y1 b1 X2 Y2 b2 * w := by
  refine rq_eq (nzl fin.low) hN ?_
  have q1 := rq_of f1 hb
  have q2 := rq_of f2 hb
  have q3 := rq_of f3 hb1
  have q4 := rq_of f4 hb1
  have q5 := rq_of f5 hb2
  have q6 := rq_of f6 hb2
  have r1 := f_sub (nzl f5.low) (nzl f3.low) g1
  have r2 := f_sub (nzl f6.low) (nzl f4.low) g2
  have r3 := f_sub (nzl f1.low) (nzl f3.low) g3
  have r4 := f_sub (nzl f2.low) (nzl f4.low) g4
  have s1 := f_mul (nzl g3.low) (nzl g1.low) k1
  have s2 := f_mul (nzl g4.low) (nzl g2.low) k2
  have s3 := f_add (nzl k1.low) (nzl k2.low) k3
  have t1 := f_mul (nzl g1.low) (nzl g1.low) l1
  have t2 := f_mul (nzl g2.low) (nzl g2.low) l2
  have t3 := f_add (nzl l1.low) (nzl l2.low) l3
  have w1 := f_div (nzl k3.low) hi fin
  rw [w1,s3,t3,s1,s2,t1,t2,r1,r2,r3,r4,q1,q2,q3,q4,q5,q6]
  have hN' := cz hN
  unfold nN at hN'
  unfold rq nM nN
  simp only [Rat.intCast_mul,Rat.intCast_add,Rat.intCast_sub] at hN' ⊢
  exact rat_near (cz hb) (cz hb1) (cz hb2) hN'
theorem near_pos {X1 Y1 b1 X2 Y2 b2 u1 v1 c1 d1 u2 v2 c2 d2 a e a' e' m2 n2 m2' n2' i2 j2 : Int} (hb1 : 0 < b1) (hb2 : 0 < b2) (f3 : Frac X1 b1 u1 v1) (f4 : Frac Y1 b1 c1 d1) (f5 : Frac X2 b2 u2 v2) (f6 : Frac Y2 b2 c2 d2)
    (g1 : Frac (u2 * v1 - u1 * v2) (v2 * v1) a e) (g2 : Frac (c2 * d1 - c1 * d2) (d2 * d1) a' e') (l1 : Frac (a * a) (e * e) m2 n2) (l2 : Frac (a' * a') (e' * e') m2' n2') (l3 : Frac (m2 * n2' + m2' * n2) (n2 * n2') i2 j2)
    (hS : 0 < (X2 * b1 - X1 * b2) * (X2 * b1 - X1 * b2) + (Y2 * b1 - Y1 * b2) * (Y2 * b1 - Y1 * b2)) : 0 < i2 := by
  have f := sq_frac f3 f4 f5 f6 g1 g2 l1 l2 l3
  have e := f.eq
  unfold sqN at e
  have hj := f.low.pos
  have hd : 0 < sqD b1 b2 := Int.mul_pos (Int.mul_pos hb1 hb2) (Int.mul_pos hb1 hb2)
  have h : 0 < i2 * sqD b1 b2 := by rw [← e]; exact Int.mul_pos hS (by omega)
  exact Int.pos_of_mul_pos_left h hd
def cX (qs : Crn) (k : Nat) : Int := (qs.getD k (0,0,0)).2.1
def cY (qs : Crn) (k : Nat) : Int := (qs.getD k (0,0,0)).2.2
def dL (dx dy : Int) : Int := dx * dx + dy * dy
def dA (X Y b bx by_ dx dy : Int) : Int := (X - bx * b) * dx + (Y - by_ * b) * dy
structure Str_ (n k : Nat) (l1 l2 h1 h2 : Int) : Prop where
  kn : k + 1 < n
  lo : (k : Int) * l2 ≤ l1
  lt : l1 * h2 < h1 * l2
  hi : h1 ≤ ((k : Int) + 1) * h2
def Cl (L al b lu l2 hu h2 Tu B : Int) : Prop := (Tu = lu ∧ B = l2 ∧ (L = 0 ∨ al * l2 < lu * (L * b))) ∨ (Tu = hu ∧ B = h2 ∧ L ≠ 0 ∧ ¬ al * l2 < lu * (L * b) ∧ hu * (L * b) < al * h2) ∨
  (L ≠ 0 ∧ ¬ al * l2 < lu * (L * b) ∧ ¬ hu * (L * b) < al * h2 ∧ Tu * (L * b) = al * B)
def kL (qs : Crn) (k : Nat) : Int := dL (cX qs (k + 1) - cX qs k) (cY qs (k + 1) - cY qs k)
def kA (X Y b : Int) (qs : Crn) (k : Nat) : Int := dA X Y b (cX qs k) (cY qs k) (cX qs (k + 1) - cX qs k) (cY qs (k + 1) - cY qs k)
def LPc (X Y b : Int) (qs : Crn) (l1 l2 h1 h2 T B : Int) : Prop := (l1 = h1 ∧ l2 = h2 ∧ T = l1 ∧ B = l2) ∨
  ∃ k : Nat,Str_ qs.length k l1 l2 h1 h2 ∧ Cl (kL qs k) (kA X Y b qs k) b (l1 - (k : Int) * l2) l2 (h1 - (k : Int) * h2) h2 (T - (k : Int) * B) B
def InS (n : Nat) (l1 l2 h1 h2 : Int) : Prop := (l1 = h1 ∧ l2 = h2) ∨ ∃ k : Nat,Str_ n k l1 l2 h1 h2
theorem ptX_on {qs : Crn} {t b : Int} {k : Nat} (hb : 0 < b) (hk : k + 1 < qs.length) (h1 : (k : Int) * b ≤ t) (h2 : t ≤ ((k : Int) + 1) * b) : ptX qs t b = cX qs k * b + (cX qs (k + 1) - cX qs k) * (t - (k : Int) * b) := pt_on (c := fun z => z.1) hb hk h1 h2
theorem ptY_on {qs : Crn} {t b : Int} {k : Nat} (hb : 0 < b) (hk : k + 1 < qs.length) (h1 : (k : Int) * b ≤ t) (h2 : t ≤ ((k : Int) + 1) * b) : ptY qs t b = cY qs k * b + (cY qs (k + 1) - cY qs k) * (t - (k : Int) * b) := pt_on (c := fun z => z.2) hb hk h1 h2
theorem nM_on {X Y b bx by_ dx dy lu l2 hu h2 : Int} : nM X Y b (bx * l2 + dx * lu) (by_ * l2 + dy * lu) l2 (bx * h2 + dx * hu) (by_ * h2 + dy * hu) h2 = (hu * l2 - lu * h2) * h2 * (l2 * dA X Y b bx by_ dx dy - lu * (dL dx dy * b)) := by
  unfold nM dA dL
  grind
theorem nN_on {b bx by_ dx dy lu l2 hu h2 : Int} : nN b (bx * l2 + dx * lu) (by_ * l2 + dy * lu) l2 (bx * h2 + dx * hu) (by_ * h2 + dy * hu) h2 = b * ((hu * l2 - lu * h2) * (hu * l2 - lu * h2) * dL dx dy) := by
  unfold nN dL
  grind
theorem pl_eq {l1 l2 h1 h2 s w a e m n T B : Int} (hl : l2 ≠ 0) (hh : h2 ≠ 0) (hw : w ≠ 0) (f1 : Frac (h1 * l2 - l1 * h2) (h2 * l2) a e) (f2 : Frac (s * a) (w * e) m n) (f3 : Frac (l1 * n + m * l2) (l2 * n) T B) : rq T B = rq l1 l2 + rq s w * (rq h1 h2 - rq l1 l2) := by
  rw [f_add hl (nzl f2.low) f3,f_mul hw (nzl f1.low) f2,f_sub hh hl f1]
theorem rq01 : rq 0 1 = 0 := by decide +kernel
theorem rq11 : rq 1 1 = 1 := by decide +kernel
theorem pl_lo {l1 l2 h1 h2 a e m n T B : Int} (Ll : Low l1 l2) (hh : h2 ≠ 0) (f1 : Frac (h1 * l2 - l1 * h2) (h2 * l2) a e) (f2 : Frac (0 * a) (1 * e) m n) (f3 : Frac (l1 * n + m * l2) (l2 * n) T B) : T = l1 ∧ B = l2 := by
  have e := pl_eq (nzl Ll) hh (by decide) f1 f2 f3
  rw [rq01,Rat.zero_mul,Rat.add_zero] at e
  exact low_unique f3.low Ll (rq_eq (nzl f3.low) (nzl Ll) e)
theorem pl_hi {l1 l2 h1 h2 a e m n T B : Int} (hl : l2 ≠ 0) (Lh : Low h1 h2) (f1 : Frac (h1 * l2 - l1 * h2) (h2 * l2) a e) (f2 : Frac (1 * a) (1 * e) m n) (f3 : Frac (l1 * n + m * l2) (l2 * n) T B) : T = h1 ∧ B = h2 := by
  have e := pl_eq hl (nzl Lh) (by decide) f1 f2 f3
  rw [rq11,Rat.one_mul,show rq l1 l2 + (rq h1 h2 - rq l1 l2) = rq h1 h2 by grind] at e
  exact low_unique f3.low Lh (rq_eq (nzl f3.low) (nzl Lh) e)
theorem pl_mid {l1 l2 h1 h2 s w a e m n T B k L al b : Int} (hl : 0 < l2) (hh : 0 < h2) (hw : w ≠ 0) (hL : 0 < L) (hb : 0 < b) (hd : 0 < h1 * l2 - l1 * h2) (f1 : Frac (h1 * l2 - l1 * h2) (h2 * l2) a e) (f2 : Frac (s * a) (w * e) m n) (f3 : Frac (l1 * n + m * l2) (l2 * n) T B)
    (hs : s * (b * ((h1 * l2 - l1 * h2) * (h1 * l2 - l1 * h2) * L)) = (h1 * l2 - l1 * h2) * h2 * (l2 * al - (l1 - k * l2) * (L * b)) * w) : (T - k * B) * (L * b) = al * B := by
  have e := pl_eq (by omega) (by omega) hw f1 f2 f3
  have hB := nzl f3.low
  have hBq := cz hB
  have q1 := cz (show l2 ≠ 0 by omega)
  have q2 := cz (show h2 ≠ 0 by omega)
  have q3 := cz hw
  have q4 := cz (show L ≠ 0 by omega)
  have q5 := cz (show b ≠ 0 by omega)
  have q6 := cz (show h1 * l2 - l1 * h2 ≠ 0 by omega)
  have e2 : rq h1 h2 - rq l1 l2 = ((h1 * l2 - l1 * h2 : Int) : Rat) * ((h2 : Rat)⁻¹ * (l2 : Rat)⁻¹) := by
    unfold rq
    rw [Rat.intCast_sub,Rat.intCast_mul,Rat.intCast_mul]
    grind
  rw [e2] at e
  generalize h1 * l2 - l1 * h2 = D at *
  have hs' : (s : Rat) * (b * (D * D * L)) = D * h2 * (l2 * al - (l1 - k * l2) * (L * b)) * w := by
    have := congrArg (fun z : Int => (z : Rat)) hs
    simpa only [Rat.intCast_mul,Rat.intCast_sub] using this
  have e3 : rq s w * D = h2 * (l2 * al - (l1 - k * l2) * (L * b)) * ((L : Rat)⁻¹ * (b : Rat)⁻¹) := by
    unfold rq
    grind
  have e4 : rq T B = k + al * ((L : Rat)⁻¹ * (b : Rat)⁻¹) := by
    rw [e,show rq s w * (D * ((h2 : Rat)⁻¹ * (l2 : Rat)⁻¹)) = (rq s w * D) * ((h2 : Rat)⁻¹ * (l2 : Rat)⁻¹) by grind,e3]
    unfold rq
    grind
  have e5 : (T - k * B) * ((L : Rat) * b) = al * (B : Rat) := by
    unfold rq at e4
    grind
  have e6 : (((T - k * B) * (L * b) : Int) : Rat) = ((al * B : Int) : Rat) := by
    simp only [Rat.intCast_mul,Rat.intCast_sub]
    exact e5
  exact Rat.intCast_inj.mp e6
theorem le_prod {D E : Int} (h : (0 ≤ D ∧ 0 ≤ E) ∨ (D ≤ 0 ∧ E ≤ 0)) : 0 ≤ D * E := by
  rcases h with ⟨h1,h2⟩ | ⟨h1,h2⟩
  · exact Int.mul_nonneg h1 h2
  · have := Int.mul_nonneg (show 0 ≤ -D by omega) (show 0 ≤ -E by omega)
    rwa [Int.neg_mul_neg] at this
theorem kL_nn (qs : Crn) (k : Nat) : 0 ≤ kL qs k := by
  unfold kL dL
  have h1 : ∀ x : Int,0 ≤ x * x := fun x => le_prod (by omega)
  have := h1 (cX qs (k + 1) - cX qs k)
  have := h1 (cY qs (k + 1) - cY qs k)
  omega
theorem sq_zero {x y : Int} (h : x * x + y * y = 0) : x = 0 ∧ y = 0 := by
  have h1 : ∀ x : Int,0 ≤ x * x := fun x => le_prod (by omega)
  have a := h1 x
  have b := h1 y
  constructor
  · have : x * x = 0 := by omega
    rcases Int.mul_eq_zero.mp this with z | z <;> exact z
  · have : y * y = 0 := by omega
    rcases Int.mul_eq_zero.mp this with z | z <;> exact z
def NP (X Y b X1 Y1 b1 X2 Y2 b2 s w : Int) : Prop := ((X1 * b2 = X2 * b1 ∧ Y1 * b2 = Y2 * b1) ∧ s = 0 ∧ w = 1) ∨
  (0 < nN b X1 Y1 b1 X2 Y2 b2 ∧ ((nM X Y b X1 Y1 b1 X2 Y2 b2 < 0 ∧ s = 0 ∧ w = 1) ∨ (nN b X1 Y1 b1 X2 Y2 b2 < nM X Y b X1 Y1 b1 X2 Y2 b2 ∧ s = 1 ∧ w = 1) ∨
    (0 ≤ nM X Y b X1 Y1 b1 X2 Y2 b2 ∧ nM X Y b X1 Y1 b1 X2 Y2 b2 ≤ nN b X1 Y1 b1 X2 Y2 b2 ∧ 0 < w ∧ s * nN b X1 Y1 b1 X2 Y2 b2 = nM X Y b X1 Y1 b1 X2 Y2 b2 * w)))
theorem np_lt {s w M N : Int} (hw : 0 < w) (hN : 0 < N) (e : s * N = M * w) : (s < 0 ↔ M < 0) ∧ (w < s ↔ N < M) := by
  have sg : ∀ {a c : Int},0 < c → (a < 0 ↔ a * c < 0) := fun {a c} hc => ⟨fun h => Int.mul_neg_of_neg_of_pos h hc,fun h => by
    by_cases z : a < 0
    · exact z
    · exact absurd h (by have := Int.mul_nonneg (show 0 ≤ a by omega) (show 0 ≤ c by omega); omega)⟩
  constructor
  · rw [sg hN,e,← sg hw]
  · have h1 : w < s ↔ (w - s) * N < 0 := by rw [← sg hN]; omega
    have h2 : N < M ↔ (N - M) * w < 0 := by rw [← sg hw]; omega
    rw [h1,h2,Int.sub_mul,Int.sub_mul,e,Int.mul_comm w N]
theorem least_ok {X Y b : Int} {qs : Crn} {l1 l2 h1 h2 s w a e m n T B : Int} (hb : 0 < b) (Ll : Low l1 l2) (Lh : Low h1 h2) (ins : InS qs.length l1 l2 h1 h2) (np : NP X Y b (ptX qs l1 l2) (ptY qs l1 l2) l2 (ptX qs h1 h2) (ptY qs h1 h2) h2 s w)
    (f1 : Frac (h1 * l2 - l1 * h2) (h2 * l2) a e) (f2 : Frac (s * a) (w * e) m n) (f3 : Frac (l1 * n + m * l2) (l2 * n) T B) : LPc X Y b qs l1 l2 h1 h2 T B ∧ l1 * B ≤ T * l2 ∧ T * h2 ≤ h1 * B := by
  have hl := Ll.pos
  have hh := Lh.pos
  rcases ins with ⟨rfl,rfl⟩ | ⟨k,st⟩
  · rcases np with ⟨_,rfl,rfl⟩ | ⟨h,_⟩
    · obtain ⟨rfl,rfl⟩ := pl_lo Ll (nzl Ll) f1 f2 f3
      exact ⟨.inl ⟨rfl,rfl,rfl,rfl⟩,Int.le_refl _,Int.le_refl _⟩
    · unfold nN at h
      simp at h
  have hlt := st.lt
  have up : l1 ≤ ((k : Int) + 1) * l2 := by
    have a : l1 * h2 ≤ ((k : Int) + 1) * l2 * h2 := by
      have := Int.mul_le_mul_of_nonneg_right st.hi (show 0 ≤ l2 by omega)
      grind
    exact Int.le_of_mul_le_mul_right a (by omega)
  have lo : (k : Int) * h2 ≤ h1 := by
    have a : (k : Int) * h2 * l2 ≤ h1 * l2 := by
      have := Int.mul_le_mul_of_nonneg_right st.lo (show 0 ≤ h2 by omega)
      grind
    exact Int.le_of_mul_le_mul_right a (by omega)
  unfold NP at np
  rw [ptX_on (by omega) st.kn st.lo up,ptY_on (by omega) st.kn st.lo up,ptX_on (by omega) st.kn lo st.hi,ptY_on (by omega) st.kn lo st.hi,nN_on,nM_on] at np
  have eD : (h1 - (k : Int) * h2) * l2 - (l1 - (k : Int) * l2) * h2 = h1 * l2 - l1 * h2 := by grind
  rw [eD] at np
  have hD : 0 < h1 * l2 - l1 * h2 := by omega
  have lowC : (kL qs k = 0 ∨ kA X Y b qs k * l2 < (l1 - (k : Int) * l2) * (kL qs k * b)) → s = 0 → w = 1 → LPc X Y b qs l1 l2 h1 h2 T B ∧ l1 * B ≤ T * l2 ∧ T * h2 ≤ h1 * B := fun c es ew => by
    subst es ew
    obtain ⟨rfl,rfl⟩ := pl_lo Ll (nzl Lh) f1 f2 f3
    exact ⟨.inr ⟨k,st,.inl ⟨rfl,rfl,c⟩⟩,Int.le_refl _,by omega⟩
  rcases np with ⟨⟨e1,e2⟩,es,ew⟩ | ⟨hN,np⟩
  · refine lowC (.inl ?_) es ew
    have g : ∀ {x d : Int},(x * l2 + d * (l1 - (k : Int) * l2)) * h2 = (x * h2 + d * (h1 - (k : Int) * h2)) * l2 → d = 0 := fun {x d} h => by
      have : d * (h1 * l2 - l1 * h2) = 0 := by grind
      rcases Int.mul_eq_zero.mp this with z | z
      · exact z
      · omega
    unfold kL dL
    rw [g e1,g e2]
    rfl
  have hL : 0 < kL qs k := by
    have h := kL_nn qs k
    by_cases z : kL qs k = 0
    · unfold kL at z
      rw [z] at hN
      simp at hN
    · omega
  have hal : kA X Y b qs k = dA X Y b (cX qs k) (cY qs k) (cX qs (k + 1) - cX qs k) (cY qs (k + 1) - cY qs k) := rfl
  have hkl : kL qs k = dL (cX qs (k + 1) - cX qs k) (cY qs (k + 1) - cY qs k) := rfl
  rw [← hal,← hkl] at np
  have sgn : ∀ {D x : Int},0 < D → (D * x < 0 ↔ x < 0) := fun {D x} hd => ⟨fun h => by
    by_cases z : x < 0
    · exact z
    · exact absurd h (by have := Int.mul_nonneg (show 0 ≤ D by omega) (show 0 ≤ x by omega); omega),fun h => Int.mul_neg_of_pos_of_neg hd h⟩
  have hDh : 0 < (h1 * l2 - l1 * h2) * h2 := Int.mul_pos hD (by omega)
  have hDl : 0 < (h1 * l2 - l1 * h2) * l2 := Int.mul_pos hD (by omega)
  have cM : (h1 * l2 - l1 * h2) * h2 * (l2 * kA X Y b qs k - (l1 - (k : Int) * l2) * (kL qs k * b)) < 0 ↔ kA X Y b qs k * l2 < (l1 - (k : Int) * l2) * (kL qs k * b) := by
    rw [sgn hDh,Int.mul_comm l2]
    omega
  have cN : b * ((h1 * l2 - l1 * h2) * (h1 * l2 - l1 * h2) * kL qs k) < (h1 * l2 - l1 * h2) * h2 * (l2 * kA X Y b qs k - (l1 - (k : Int) * l2) * (kL qs k * b)) ↔ (h1 - (k : Int) * h2) * (kL qs k * b) < kA X Y b qs k * h2 := by
    have z : b * ((h1 * l2 - l1 * h2) * (h1 * l2 - l1 * h2) * kL qs k) - (h1 * l2 - l1 * h2) * h2 * (l2 * kA X Y b qs k - (l1 - (k : Int) * l2) * (kL qs k * b)) = (h1 * l2 - l1 * h2) * l2 * ((h1 - (k : Int) * h2) * (kL qs k * b) - kA X Y b qs k * h2) := by grind
    have y := sgn (x := (h1 - (k : Int) * h2) * (kL qs k * b) - kA X Y b qs k * h2) hDl
    rw [← z] at y
    omega
  have nneg : ∀ {x : Int},0 ≤ x → ¬ x < 0 := fun h => by omega
  rcases np with ⟨h,es,ew⟩ | ⟨h,es,ew⟩ | ⟨h,h',hw,es⟩
  · exact lowC (.inr (cM.mp h)) es ew
  · subst es ew
    obtain ⟨rfl,rfl⟩ := pl_hi (nzl Ll) Lh f1 f2 f3
    refine ⟨.inr ⟨k,st,.inr (.inl ⟨rfl,rfl,by omega,fun c => ?_,cN.mp h⟩)⟩,by omega,Int.le_refl _⟩
    have := cM.mpr c
    have hN' : 0 < b * ((T * l2 - l1 * B) * (T * l2 - l1 * B) * kL qs k) := hN
    omega
  · have c1 : ¬ kA X Y b qs k * l2 < (l1 - (k : Int) * l2) * (kL qs k * b) := fun c => nneg h (cM.mpr c)
    have c2 : ¬ (h1 - (k : Int) * h2) * (kL qs k * b) < kA X Y b qs k * h2 := fun c => by have := cN.mpr c; omega
    have e := pl_mid (k := (k : Int)) (L := kL qs k) (al := kA X Y b qs k) (b := b) (by omega) (by omega) (by omega) hL hb hD f1 f2 f3 es
    have hB := f3.low.pos
    have hLb : 0 < kL qs k * b := Int.mul_pos hL hb
    refine ⟨.inr ⟨k,st,.inr (.inr ⟨by omega,c1,c2,e⟩)⟩,?_,?_⟩
    · have z := Int.mul_le_mul_of_nonneg_right (Int.not_lt.mp c1) (show 0 ≤ B by omega)
      have r1 : (T - (k : Int) * B) * l2 * (kL qs k * b) = kA X Y b qs k * l2 * B := by rw [Int.mul_right_comm,e,Int.mul_right_comm]
      have r2 : (l1 - (k : Int) * l2) * B * (kL qs k * b) = (l1 - (k : Int) * l2) * (kL qs k * b) * B := Int.mul_right_comm _ _ _
      have z2 : (l1 - (k : Int) * l2) * B * (kL qs k * b) ≤ (T - (k : Int) * B) * l2 * (kL qs k * b) := by omega
      have := Int.le_of_mul_le_mul_right z2 hLb
      grind
    · have z := Int.mul_le_mul_of_nonneg_right (Int.not_lt.mp c2) (show 0 ≤ B by omega)
      have r1 : (T - (k : Int) * B) * h2 * (kL qs k * b) = kA X Y b qs k * h2 * B := by rw [Int.mul_right_comm,e,Int.mul_right_comm]
      have r2 : (h1 - (k : Int) * h2) * B * (kL qs k * b) = (h1 - (k : Int) * h2) * (kL qs k * b) * B := Int.mul_right_comm _ _ _
      have z2 : (T - (k : Int) * B) * h2 * (kL qs k * b) ≤ (h1 - (k : Int) * h2) * B * (kL qs k * b) := by omega
      have := Int.le_of_mul_le_mul_right z2 hLb
      grind
theorem kL_bits {H : Hp} {l : Addr} {qs : Crn} (L : LineAt H l qs) (k : Nat) : bits (kL qs k) ≤ 103 := by
  have h1 := crn_bits L k
  have h2 := crn_bits L (k + 1)
  have a := bits_sub h2.1 h1.1
  have b := bits_sub h2.2 h1.2
  exact bits_le (bits_add (bits_mul a a) (bits_mul b b)) (by decide)
theorem lp_bits {H : Hp} {l : Addr} {qs : Crn} {X Y b l1 l2 h1 h2 T B : Int} (L : LineAt H l qs) (h20 : qs.length ≤ 20) (hb : 0 < b) (bb : bits b ≤ 60) (lw : Low T B) (h : LPc X Y b qs l1 l2 h1 h2 T B) (b2 : bits l2 ≤ 60) (b4 : bits h2 ≤ 60) (t0 : 0 ≤ T) (t1 : T ≤ lst_ qs * B) : bits T ≤ 200 ∧ bits B ≤ 163 := by
  have hB := lw.pos
  have b3 : bits B ≤ 163 := by
    rcases h with ⟨_,_,rfl,rfl⟩ | ⟨k,st,⟨_,rfl,_⟩ | ⟨_,rfl,_⟩ | ⟨h0,_,_,e⟩⟩
    · exact bits_le b2 (by decide)
    · exact bits_le b2 (by decide)
    · exact bits_le b4 (by decide)
    · have hL := kL_nn qs k
      have hLb : 0 < kL qs k * b := Int.mul_pos (by omega) hb
      have f : Frac (kA X Y b qs k + (k : Int) * (kL qs k * b)) (kL qs k * b) T B := ⟨lw,by grind⟩
      exact (frac_bits hLb f (Nat.le_refl _) (bits_mul (kL_bits L k) bb)).2
  refine ⟨?_,b3⟩
  have : lst_ qs * B ≤ 20 * B := Int.mul_le_mul_of_nonneg_right (by unfold lst_; omega) (by omega)
  exact bits_le (bits_range t0 (Int.le_trans t1 this) (bits_mul (show bits 20 ≤ 5 by decide) b3)) (by decide)
theorem part_bits {H : Hp} {l : Addr} {qs : Crn} {X Y b l1 l2 h1 h2 s w : Int} {k : Nat} (L : LineAt H l qs) (hb : 0 < b) (hl : 0 < l2) (hh : 0 < h2) (bb : bits b ≤ 60) (b2 : bits l2 ≤ 60) (b4 : bits h2 ≤ 60) (st : Str_ qs.length k l1 l2 h1 h2) (bX : bits X ≤ 262 ∧ bits Y ≤ 262) (lw : Low s w)
    (hN : 0 < nN b (ptX qs l1 l2) (ptY qs l1 l2) l2 (ptX qs h1 h2) (ptY qs h1 h2) h2) (e : s * nN b (ptX qs l1 l2) (ptY qs l1 l2) l2 (ptX qs h1 h2) (ptY qs h1 h2) h2 = nM X Y b (ptX qs l1 l2) (ptY qs l1 l2) l2 (ptX qs h1 h2) (ptY qs h1 h2) h2 * w) : bits s ≤ 900 ∧ bits w ≤ 900 := by
  have hlt := st.lt
  have p1 := pt_bits (t := l1) L hl (bits_le b2 (by decide))
  have p2 := pt_bits (t := h1) L hh (bits_le b4 (by decide))
  have q : ∀ {x : Int} {z : Int},0 < z → bits z ≤ 60 → ∀ {x : Int},bits x ≤ 262 → bits (x * z) ≤ 322 := fun _ hz _ hx => bits_mul hx hz
  have u1 := bits_sub (bits_mul p2.1 b2) (bits_mul p1.1 b4)
  have u2 := bits_sub (bits_mul p2.2 b2) (bits_mul p1.2 b4)
  have v1 := bits_sub (bits_mul bX.1 b2) (bits_mul p1.1 bb)
  have v2 := bits_sub (bits_mul bX.2 b2) (bits_mul p1.2 bb)
  have bM : bits (nM X Y b (ptX qs l1 l2) (ptY qs l1 l2) l2 (ptX qs h1 h2) (ptY qs h1 h2) h2) ≤ 900 := bits_le (bits_mul (bits_add (bits_mul u1 v1) (bits_mul u2 v2)) b4) (by decide)
  have bN : bits (nN b (ptX qs l1 l2) (ptY qs l1 l2) l2 (ptX qs h1 h2) (ptY qs h1 h2) h2) ≤ 900 := bits_le (bits_mul bb (bits_add (bits_mul u1 u1) (bits_mul u2 u2))) (by decide)
  exact frac_bits hN ⟨lw,e.symm⟩ bM bN
end Sp11
namespace Sk
open PySem PySem.Spec L2 Sp24 Wk
end Sk
namespace Sk
open PySem PySem.Spec L2 Sp24 Wk
end Sk
namespace L2
open PySem PySem.Spec PyProof.Rows
section
variable {prog : Program} {w : World} {A : Around} {E : Value → Shared → Prop} {s : Shared}
end
section
variable {X : Cx}
end
end L2
namespace L2
open PySem PySem.Spec PyProof.Rows
end L2
namespace Sk
open PySem PySem.Spec L2 Sp24 Wk
end Sk
namespace L2
open PySem PySem.Spec PyProof.Rows
section
variable {prog : Program} {w : World} {A : Around} {E : Value → Shared → Prop} {s : Shared}
end
section
variable {X : Cx} {o : Expr} {lo hi : Option Expr} {to : TE} {tl th : TO} {pos p2 : Pos}
end
end L2
namespace L2
open PySem PySem.Spec PyProof.Rows
section
variable {X : Cx}
def rCatTA : R2 := fun x y H Q => ∃ l b xs zs,x = .ref l ∧ y = .ref b ∧ H l = some (.tup xs) ∧ H b = some (.tup zs) ∧ (xs ≠ [] ∧ zs ≠ []) ∧ xs.length + zs.length ≤ sizeLine ∧ ∀ p H2,Same H H2 → H2 p = some (.tup (xs ++ zs)) → H p = none → Q (.ref p) H2
theorem op_catTA : OpR X (binaryOp .Add) rCatTA := by
  intro pins s σ H x y v u Q I rx ry h
  obtain ⟨l,b,xs,zs,rfl,rfl,hH,hB,⟨h1,h2⟩,hz,q⟩ := h
  cases rx
  cases ry
  obtain ⟨z,its,r,⟨⟨cls,dd,data,sl⟩,ho,hc,n,hd⟩⟩ := I.hok _ _ hH
  obtain ⟨z2,its2,r2,⟨⟨cls2,dd2,data2,sl2⟩,ho2,hc2,n2,hd2⟩⟩ := I.hok _ _ hB
  simp only at hc hd hc2 hd2
  subst hc hd hc2 hd2
  have l1 := r.length
  have l2 := r2.length
  have n1 : its ≠ [] := fun e => h1 (List.eq_nil_of_length_eq_zero (by rw [l1,e]; rfl))
  have n2' : its2 ≠ [] := fun e => h2 (List.eq_nil_of_length_eq_zero (by rw [l2,e]; rfl))
  have e : its.toArray ++ its2.toArray = (its ++ its2).toArray := by simp
  refine concat_meets ⟨_,ho,rfl⟩ ⟨_,ho2,rfl⟩ noFill_tuple_add seq_tuple_add PySem.F.slot_tuple_add PySem.F.entry_tuple_add (PySem.F.args_tuple_add_2 _ _)
    (tuple_addW2 l b its.toArray its2.toArray n n2 dd dd2 sl sl2 (by simpa using n1) (by simpa using n2') (by rw [List.size_toArray,List.size_toArray]; omega)) ⟨ho,ho2,?_⟩
  rw [e]
  have hf : H s.heap.objs.size = none := I.fresh
  refine ⟨.ref s.heap.objs.size,upd H s.heap.objs.size (.tup (xs ++ zs)),I.laid (t' := s.toks) (fun b u e => Heap.get?_push_of_some _ e) (Nat.le_refl _) ?_,rfl,q _ _ (Same.new hf) upd_same hf⟩
  exact ⟨by rw [List.length_append]; exact hz,its ++ its2,r.append r2,IsTup.new _ _⟩
end
end L2
namespace L2
open PySem PySem.Spec PyProof.Rows
section
variable {X : Cx}
end
end L2
namespace L2
open PySem PySem.Spec PyProof.Rows
section
variable {X : Cx}
end
end L2
namespace L2
open PySem PySem.Spec PyProof.Rows
section
variable {X : Cx}
end
end L2
namespace L2
open PySem PySem.Spec PyProof.Rows
section
variable {M : Model} {A : Around} {E : Value → Shared → Prop} {s : Shared}
end
end L2
namespace L2
open PySem PySem.Spec PyProof.Rows
section
variable {P : Program} {w : World} {K : PySem.W.Frag} {mg : Str → Option Value} {base : Heap} {N : List Str} {qual : Str} {scope : Scope} {f : Addr} {cdv : Value} {A : Around} {outer : List Env} {s₀ : Shared} {H₀ : Hp} {E : XK}
end
end L2
namespace L2
open PySem PySem.Spec PyProof.Rows
section
variable {X : Cx} {scope : Scope} {cl : List (Str × Addr)} {x : Str} {fv : List (Str × Nat)} {elt iter : Expr} {px pos : Pos} {te : TE}
end
section
variable {P : Program} {w : World} {K : PySem.W.Frag} {mg : Str → Option Value} {base : Heap} {N : List Str} {qual : Str} {scope' : Scope} {f : Addr} {cdv : Value} {A : Around} {outer : List Env} {s₀ : Shared} {H₀ : Hp} {E : XK}
variable {scope : Scope} {cl : List (Str × Addr)} {x : Str} {fv : List (Str × Nat)} {elt iter : Expr} {px pos : Pos} {te : TE}
end
end L2
namespace L2
open PySem PySem.Spec PyProof.Rows
end L2
namespace Hd
open PySem PySem.W PySem.Spec L2
def live (o : Obj) : Bool := match o.data with
  | .freed => false
  | _ => true
def nums : Nat → List Obj → Frag
  | _,[] => []
  | n,a :: r => bif live a then (n,a) :: nums (n + 1) r else nums (n + 1) r
def frag (h : Heap) : Frag := nums 0 h.objs.toList
def fnFact (K : Frag) (x : Str) : Option (Arguments × List Stmt × Scope × Value) := match nsIn K mainGlobals x with
  | some (some (.ref f)) => (match K.lookup f with
    | some ⟨_,_,.func fd,_⟩ => (match fd.body,fd.closure with
      | .stmts b,[] => bif (fd.name == x && (fd.qualname == x && (Nat.beq fd.globals mainGlobals && (Nat.beq fd.builtins builtinsNs && codeIn K fd.code x)))) then some (fd.params,b,fd.scope,fd.defaults) else none
      | _,_ => none)
    | _ => none)
  | _ => none
theorem fnFact_spec {K : Frag} {x : Str} {a : Arguments} {b : List Stmt} {sc : Scope} {dv : Value} (e : fnFact K x = some (a,b,sc,dv)) :
    ∃ (f : Addr) (oc : Value) (od : Option Addr) (kV doc pm : Value) (an : Option Addr) (cdv ct : Value) (osl : Array (Option Value)),
      nsIn K mainGlobals x = some (some (.ref f)) ∧ K.lookup f = some ⟨oc,od,.func (fnOf x x a b sc dv kV doc pm an cdv ct),osl⟩ ∧ codeIn K cdv x = true ∧ keepIn K (.ref f) = true := by
  unfold fnFact at e
  split at e
  · rename_i f hf
    split at e
    · rename_i oc od fd osl hl
      split at e
      · rename_i b' hb hc
        cases hq : (fd.name == x && (fd.qualname == x && (Nat.beq fd.globals mainGlobals && (Nat.beq fd.builtins builtinsNs && codeIn K fd.code x)))) with
        | false => rw [hq] at e; cases e
        | true =>
          rw [hq] at e
          simp only [Bool.and_eq_true] at hq
          obtain ⟨h1,h2,h3,h4,h5⟩ := hq
          replace h1 := eq_of_beq h1
          replace h2 := eq_of_beq h2
          replace h3 := Nat.eq_of_beq_eq_true h3
          replace h4 := Nat.eq_of_beq_eq_true h4
          simp only [cond_true,Option.some.injEq,Prod.mk.injEq] at e
          obtain ⟨e1,e2,e3,e4⟩ := e
          obtain ⟨n,qn,ps,bd,s,gl,cl,df,kw,dc,pm,an,cd,ct,bl⟩ := fd
          simp only at h1 h2 h3 h4 h5 e1 e2 e3 e4 hb hc
          subst h1 h2 h3 h4 e1 e2 e3 e4 hb hc
          refine ⟨f,oc,od,kw,dc,pm,an,cd,ct,osl,hf,hl,h5,?_⟩
          unfold keepIn
          dsimp only
          rw [hl]
      · cases e
    · cases e
  · cases e
theorem df_of {K : Frag} {mg : Str → Option Value} {h : Heap} {x : Str} {st : Stmt} (X : K.In h) (G : h.Ns mainGlobals mg) (e : fnFact K x = some (defArgs st,defBody st,defScope st,.none)) : Df K mg x st := by
  obtain ⟨f,oc,od,kV,doc,pm,an,cdv,ct,osl,h1,h2,h3,h4⟩ := fnFact_spec e
  exact df_mk X G h1 h2 h3 h4
def bareV : Value → V
  | .none => .non
  | .bool b => .bl b
  | .int i _ => .int i
  | .str x _ => .str x
  | .bytes b _ => .byt b
  | .float b _ => .flt b
  | .ref a => .ref a
  | .type n => .ty n
  | _ => .ty "no plain value"
def plainV : Value → Bool
  | .ellipsis | .notImplemented | .builtin _ => false
  | _ => true
theorem bareV_rel : ∀ {v : Value},plainV v = true → RelV (bareV v) v
  | .none,_ => rfl
  | .bool _,_ => rfl
  | .int _ t,_ => ⟨t,rfl⟩
  | .str _ t,_ => ⟨t,rfl⟩
  | .bytes _ t,_ => ⟨t,rfl⟩
  | .float _ t,_ => ⟨t,rfl⟩
  | .ref _,_ => rfl
  | .type _,_ => rfl
  | .ellipsis,h => by cases h
  | .notImplemented,h => by cases h
  | .builtin _,h => by cases h
theorem vals_bare : ∀ {l : List Value},l.all plainV = true → Vals (l.map bareV) l
  | [],_ => .nil
  | _ :: _,h => by
    rw [List.all_cons,Bool.and_eq_true] at h
    exact .cons (bareV_rel h.1) (vals_bare h.2)
def seqAt (K : Frag) (v : Value) : Option (List V) := match v with
  | .ref a => (match K.lookup a with
    | some ⟨_,_,.seq its _,_⟩ => bif its.toList.all plainV then some (its.toList.map bareV) else none
    | _ => none)
  | _ => none
theorem seqAt_spec {K : Frag} {v : Value} {ds : List V} (e : seqAt K v = some ds) : ∃ (a : Addr) (o : Obj) (its : List Value) (n : Nat),v = .ref a ∧ K.lookup a = some o ∧ o.data = .seq its.toArray n ∧ Vals ds its := by
  unfold seqAt at e
  split at e
  · rename_i a
    split at e
    · rename_i oc od its n osl hl
      cases hq : its.toList.all plainV with
      | false => rw [hq] at e; cases e
      | true =>
        rw [hq] at e
        cases e
        exact ⟨a,_,its.toList,n,rfl,hl,rfl,vals_bare hq⟩
    · cases e
  · cases e
def fnFactD (K : Frag) (x : Str) : Option (Arguments × List Stmt × Scope × List V) := match fnFact K x with
  | some (a,b,s,dv) => (match seqAt K dv with
    | some ds => some (a,b,s,ds)
    | none => none)
  | none => none
theorem dfd_of {K : Frag} {mg : Str → Option Value} {h : Heap} {x : Str} {st : Stmt} {ds : List V} (X : K.In h) (G : h.Ns mainGlobals mg) (e : fnFactD K x = some (defArgs st,defBody st,defScope st,ds)) : DfD K mg x st ds := by
  unfold fnFactD at e
  split at e
  · rename_i a b s dv hf
    split at e
    · rename_i ds' hs
      simp only [Option.some.injEq,Prod.mk.injEq] at e
      obtain ⟨e1,e2,e3,e4⟩ := e
      subst e1 e2 e3 e4
      obtain ⟨f,oc,od,kV,doc,pm,an,cdv,ct,osl,h1,h2,h3,h4⟩ := fnFact_spec hf
      obtain ⟨T,oT,its,n,rfl,hl,hd,hv⟩ := seqAt_spec hs
      exact dfd_mk X G h1 h2 h3 h4 hl hd hv
    · cases e
  · cases e
def cls (K : Frag) (x : Str) : Addr := match nsIn K mainGlobals x with
  | some (some (.ref C)) => C
  | _ => 0
def excFact (K : Frag) (x : Str) : Bool := match nsIn K mainGlobals x with
  | some (some (.ref C)) => excIn K C [.type "ValueError",.type "Exception",.type "BaseException",.type "object"] "ValueError.__new__"
  | _ => false
theorem exc_of {K : Frag} {mg : Str → Option Value} {h : Heap} {x : Str} (X : K.In h) (G : h.Ns mainGlobals mg) (e : excFact K x = true) : ExcC K mg x (cls K x) := by
  unfold excFact at e
  split at e
  · rename_i C hC
    have : cls K x = C := by unfold cls; rw [hC]
    rw [this]
    exact exc_mk X G hC e
  · cases e
def tupFact (K : Frag) (x : Str) : Option (List V) := match nsIn K mainGlobals x with
  | some (some (.ref a)) => (match K.lookup a with
    | some ⟨.type "tuple",_,.seq its _,_⟩ => bif its.toList.all plainV then some (its.toList.map bareV) else none
    | _ => none)
  | _ => none
def noFact (K : Frag) (x : Str) : Bool := match nsIn K mainGlobals x with
  | some none => true
  | _ => false
theorem no_of {K : Frag} {x : Str} (e : noFact K x = true) : nsIn K mainGlobals x = some none := by
  unfold noFact at e
  split at e
  · rename_i h
    exact h
  · cases e
theorem at_map {α β : Type} {f g : α → β} {l : List α} (e : l.map f = l.map g) (i : Nat) {a : α} (h : l[i]? = some a) : f a = g a := by
  have q := congrArg (fun l : List β => l[i]?) e
  simp only [List.getElem?_map,h,Option.map_some,Option.some.injEq] at q
  exact q
theorem at_all {α : Type} {f : α → Bool} {l : List α} (e : l.all f = true) (i : Nat) {a : α} (h : l[i]? = some a) : f a = true :=
  List.all_eq_true.mp e a (List.mem_of_getElem? h)
end Hd
namespace Hd
open PySem PySem.W PySem.Spec L2
end Hd
namespace L2
open PySem PySem.Spec PyProof.Rows
end L2
namespace Hd
open PySem PySem.W PySem.Spec L2
theorem pair2 {α β : Type _} {a a' : α} {b b' : β} (h : a = a') (g : b = b') : (a,b) = (a',b') := by rw [h,g]
end Hd
namespace L2
open PySem PySem.Spec PyProof.Rows PySem.W
theorem law_callT {P : Program} {w : World} {K : PySem.W.Frag} {mg mb : Str → Option Value} {k : Nat} {fa a : Addr} {fd : FuncData} {x : Str} {sp : Sp} {s₁ : Shared} {vs : List Value} {ns : List Int} {tabs : List Addr}
    (KX : K.In s₁.heap) (hKt : ∀ p ∈ tabs,K.lookup p = none) (hT : ∀ p ∈ tabs,s₁.heap.get? p = some (tabObj #[])) (hTc : ∀ p ∈ tabs,isCodeTable s₁.heap p)
    (hns : s₁.heap.Ns mainGlobals mg) (hb : s₁.heap.Ns builtinsNs mb) (hbb : ∀ x : Str,x ≠ "__name__" → mb x = bootBuiltins x) (hlim : s₁.heap.NoLimit) (hg : s₁.gens = #[])
    (ha : s₁.heap.get? a = some { cls := .type "list",data := .seq vs.toArray }) (hi : IntsAre vs ns) (hl : ns.length ≤ sizeLine) (hr : Room k callerA)
    (F : ∀ base : Heap,K.In base → base.Ns mainGlobals mg → FnOk P w K mg base CX0 k fa fd [x] sp) (hbind : ∀ (s : Shared) (u : Value),BindsTo s fd ⟨[u],[]⟩ [(x,u)])
    (hsp : ∀ H : Hp,SqL K H a (ns.map V.int) → (∀ p ∈ tabs,H p = some (.tbl #[])) → sp [.ref a] H (fun v _ => v = .bl true) fun _ _ _ => False) :
    codeAny (model P w) callerA (.call (.ref fa) ⟨[.ref a],[]⟩) (fun r s' => r = .ok (.ret (.bool true)) ∧ OldK s₁.heap s'.heap ∧ s'.os = s₁.os ∧ AllBare s'.gens) s₁ := by
  have rv := vals_ints hi
  have lenV := hi.length
  have atab : a ∉ tabs := fun z => by rw [hT a z] at ha; cases ha
  have core : ∀ H : Hp,SqL K H a (ns.map V.int) → (∀ p ∈ tabs,H p = some (.tbl #[])) → HOk P w H s₁.heap → (∀ b,H b ≠ none → b ∈ tabs ∨ (b = a ∧ K.lookup a = none ∧ ∃ o xs,H b = some (.frz o (.lst xs)))) →
      codeAny (model P w) callerA (.call (.ref fa) ⟨[.ref a],[]⟩) (fun r s' => r = .ok (.ret (.bool true)) ∧ OldK s₁.heap s'.heap ∧ s'.os = s₁.os ∧ AllBare s'.gens) s₁ := by
    intro H hS hTb hok hA
    have base_of : ∀ {b : Addr} {o : Obj},s₁.heap.get? b = some o → H b = none → (hidT s₁.heap H).get? b = some o := fun e n => hidT_get e n
    have noA : ∀ {b : Addr} {o : Obj} {es : Array DictEntry} {ep : Nat},s₁.heap.get? b = some o → o.data = .dict es ep → H b = none := fun {b o es ep} e d => by
      cases q : H b with
      | none => rfl
      | some u =>
        rcases hA b (by rw [q]; simp) with z | ⟨e',_⟩
        · rw [hT b z] at e; cases e
          have d' : Data.fields _ = Data.dict es ep := d
          cases d'
        · subst e'
          rw [ha] at e; cases e
          have d' : Data.seq vs.toArray _ = Data.dict es ep := d
          cases d'
    have nsK : ∀ {b : Addr} {m : Str → Option Value},s₁.heap.Ns b m → (hidT s₁.heap H).Ns b m := fun {b m} ⟨o,es,ep,e,d,r⟩ => ⟨o,es,ep,base_of e (noA e d),d,r⟩
    have hKb : K.In (hidT s₁.heap H) := fun b o e => base_of (KX b o e) (by
      cases q : H b with
      | none => rfl
      | some u =>
        rcases hA b (by rw [q]; simp) with z | ⟨e',hk,_⟩
        · rw [hKt b z] at e; cases e
        · subst e'
          rw [hk] at e; cases e)
    have hM : Mod K mg (hidT s₁.heap H) := ⟨hKb,nsK hns,⟨mb,nsK hb,hbb⟩,let ⟨mc,h1,h2⟩ := hlim; ⟨mc,nsK h1,h2⟩⟩
    have e0 : Env0 P w K mg (hidT s₁.heap H) callerA [] s₁ H := ⟨rfl,hM,fun b o e => of_hidT e,Nat.le_of_eq (hidT_size _ _),trivial,fun b hb => absurd (show b ∈ ([] : List Addr) from hb) (by simp),hok,.of_eq hg⟩
    refine codeAny_mono ((F _ hKb (nsK hns)).run callerA [] s₁ H ⟨[.ref a],[]⟩ [.ref a] [.ref a] _ _ hr e0 (hbind s₁ (.ref a)) (.cons rfl .nil) (hsp H hS hTb)) fun r s' h => ?_
    cases r with
    | error e => exact False.elim h
    | ok fl =>
      cases fl with
      | next => exact False.elim h
      | brk => exact False.elim h
      | cont => exact False.elim h
      | ret u =>
        obtain ⟨v,H',os,bare,un,hok',r',q⟩ := h
        have q' : v = .bl true := q
        subst q'
        obtain rfl : u = Value.bool true := r'
        refine ⟨rfl,⟨fun b o e => ?_,fun b o e => un.there b o e (by simp)⟩,os,bare⟩
        cases q : H b with
        | none => exact .inl (un.keep b o e q (by intro z; exact absurd (show b ∈ ([] : List Addr) from z) (by simp)) (by simp))
        | some u =>
          rcases hA b (by rw [q]; simp) with z | ⟨_,_,ob,xs,z⟩
          · obtain ⟨more,q2⟩ := un.tbls b #[] (hTb b z)
            have e2 : s'.heap.get? b = some { cls := .none,data := .fields (#[] ++ more) } := hok' b _ q2
            rw [hT b z] at e
            cases e
            exact .inr (.inl ⟨hTc b z,rfl,#[],more,rfl,e2⟩)
          · have z2 := un.frzs b ob _ z
            obtain ⟨e1,_⟩ := hok b _ z
            obtain ⟨e2,_⟩ := hok' b _ z2
            rw [e] at e1; cases e1
            exact .inl e2
  let Ht : Hp := fun b => if b ∈ tabs then some (.tbl #[]) else none
  have tb : ∀ p ∈ tabs,Ht p = some (.tbl #[]) := fun p hp => if_pos hp
  have tn : ∀ b,b ∉ tabs → Ht b = none := fun b hb => if_neg hb
  have tok : HOk P w Ht s₁.heap := fun b u e => by
    by_cases z : b ∈ tabs
    · rw [tb b z] at e; cases e
      exact hT b z
    · rw [tn b z] at e; cases e
  cases hk : K.lookup a with
  | some o =>
    have e := KX a o hk
    rw [ha] at e
    cases e
    refine core Ht (.inr ⟨_,vs.toArray,_,hk,rfl,rfl,rfl,by rw [List.size_toArray,lenV]; exact hl,by simpa using rv⟩) tb tok fun b z => ?_
    by_cases hb : b ∈ tabs
    · exact .inl hb
    · exact absurd (tn b hb) z
  | none =>
    have nb : Ht a = none := tn a atab
    have sm : ∀ b o,Ht b = some o → upd Ht a (.frz { cls := .type "list",data := .seq vs.toArray } (.lst (ns.map V.int))) b = some o := fun b o e => by
      rw [upd_ne (fun z => by rw [z,nb] at e; cases e)]; exact e
    refine core (upd Ht a (.frz { cls := .type "list",data := .seq vs.toArray } (.lst (ns.map V.int)))) (.inl (.inr ⟨{ cls := .type "list",data := .seq vs.toArray },upd_same⟩)) (fun p hp => sm p _ (tb p hp)) (fun b u z => ?_) fun b z => ?_
    · by_cases hb : b = a
      · subst hb
        rw [upd_same] at z
        cases z
        exact ⟨ha,by rw [List.length_map]; exact hl,vs,_,rv,ha⟩
      · rw [upd_ne hb] at z
        exact (tok b u z).stay (fun _ _ _ q => q) (fun d q => sm d _ q) fun d xs q => sm d _ q
    · by_cases hb : b = a
      · exact .inr ⟨hb,hk,_,_,by rw [hb]; exact upd_same⟩
      · rw [upd_ne hb] at z
        by_cases ht : b ∈ tabs
        · exact .inl ht
        · exact absurd (tn b ht) z
def spLawT (K : PySem.W.Frag) (tabs : List Addr) : Sp := fun vs H Q _ => ∃ (a : Addr) (ns : List Int),vs = [.ref a] ∧ SqL K H a (ns.map V.int) ∧ ns.length ≤ 63 ∧ (∀ p ∈ tabs,H p = some (.tbl #[])) ∧ ∀ H',Q (.bl true) H'
end L2
namespace Hd
open PySem PySem.W PySem.Spec L2
def isTab (o : Obj) : Bool := match o with
  | ⟨.none,_,.fields _,_⟩ => true
  | _ => false
def strip (K : Frag) : Frag := K.filter fun p => !isTab p.2
theorem nums_mem : ∀ (l : List Obj) (n : Nat) (p : Nat × Obj),p ∈ nums n l → n ≤ p.1 ∧ l[p.1 - n]? = some p.2 ∧ live p.2 = true
  | [],_,_,e => by cases e
  | x :: r,n,p,e => by
    have up : p ∈ nums (n + 1) r → n ≤ p.1 ∧ (x :: r)[p.1 - n]? = some p.2 ∧ live p.2 = true := fun e => by
      obtain ⟨h1,h2,h3⟩ := nums_mem r (n + 1) p e
      refine ⟨by omega,?_,h3⟩
      have : p.1 - n = (p.1 - (n + 1)) + 1 := by omega
      rw [this]
      exact h2
    unfold nums at e
    cases hl : live x with
    | false =>
      rw [hl] at e
      exact up e
    | true =>
      rw [hl,cond_true] at e
      rcases List.mem_cons.mp e with rfl | e
      · exact ⟨Nat.le_refl _,by simp,hl⟩
      · exact up e
theorem frag_mem (h : Heap) : ∀ p ∈ frag h,h.get? p.1 = some p.2 := fun p hp => by
  obtain ⟨_,q,hl⟩ := nums_mem _ _ _ hp
  have q : h.objs[p.1]? = some p.2 := by simpa using q
  unfold Heap.get?
  rw [q]
  obtain ⟨a,o⟩ := p
  obtain ⟨c,d,dt,sl⟩ := o
  cases dt <;> first | rfl | cases hl
theorem look_mem {K : Frag} {b : Addr} {o : Obj} (e : K.lookup b = some o) : (b,o) ∈ K := by
  induction K with
  | nil => cases e
  | cons x r ih =>
    rw [List.lookup_cons] at e
    cases hb : b == x.1 with
    | true =>
      rw [hb] at e
      cases e
      rw [beq_iff_eq.mp hb]
      exact List.mem_cons_self
    | false =>
      rw [hb] at e
      exact List.mem_cons_of_mem _ (ih e)
theorem strip_in {K : Frag} {h : Heap} (k : ∀ p ∈ K,h.get? p.1 = some p.2) : (strip K).In h := fun b o e => k (b,o) (List.mem_filter.mp (look_mem e)).1
theorem strip_tab {K : Frag} {b : Addr} {o : Obj} (e : (strip K).lookup b = some o) : isTab o = false := by
  have := (List.mem_filter.mp (look_mem e)).2
  simpa using this
def hookT {α : Type} (facts : Frag → α) (val : α) : Hook :=
  ⟨α,fun s => facts (frag s.heap),fun _ => val,fun _ h => ∃ K : Frag,(∀ p ∈ K,h.get? p.1 = some p.2) ∧ facts K = val,fun _ s e => ⟨_,frag_mem s.heap,e⟩,fun _ _ _ ⟨K,hi,e⟩ k => ⟨K,fun p hp => k _ _ (hi p hp),e⟩⟩
def tabAt (K : Frag) (x : Str) : Option (Addr × Addr) := match nsIn (strip K) mainGlobals x with
  | some (some (.ref f)) => (match (strip K).lookup f with
    | some ⟨_,_,.func fd,_⟩ => (match fd.code with
      | .ref c => (match (strip K).lookup c with
        | some ⟨.type "code",_,.fields vs,_⟩ => (match (vs[11]? : Option Value),vs.getD 18 .none,vs.getD 7 .none,vs.getD 9 .none,vs.getD 10 .none with
          | some (.ref p),.str _ _,.int _ _,.bool _,.int _ _ => (match K.lookup p with
            | some ⟨.none,none,.fields ps,sl⟩ => bif (ps.toList.isEmpty && (sl.toList.isEmpty && !(Nat.beq c p))) then some (c,p) else none
            | _ => none)
          | _,_,_,_,_ => none)
        | _ => none)
      | _ => none)
    | _ => none)
  | _ => none
def tabFact (K : Frag) (x : Str) : Bool := (tabAt K x).isSome
def tabP (K : Frag) (x : Str) : Addr := match tabAt K x with
  | some q => q.2
  | none => 0
theorem tabAt_spec {K : Frag} {x : Str} {c p : Addr} (e : tabAt K x = some (c,p)) : ∃ f oc od fd sl,nsIn (strip K) mainGlobals x = some (some (.ref f)) ∧ (strip K).lookup f = some ⟨oc,od,.func fd,sl⟩ ∧ fd.code = .ref c ∧ CodeF (strip K) c p ∧ K.lookup p = some (tabObj #[]) := by
  unfold tabAt at e
  split at e
  · rename_i f hf
    split at e
    · rename_i oc od fd sl hl
      split at e
      · rename_i c' hc
        split at e
        · rename_i od2 vs sl2 hl2
          split at e
          · rename_i p' st tt i1 t1 b1 i2 t2 h11 h18 h7 h9 h10
            split at e
            · rename_i ps sl3 hl3
              cases hq : (ps.toList.isEmpty && (sl3.toList.isEmpty && !(Nat.beq c' p'))) with
              | false => rw [hq] at e; cases e
              | true =>
                rw [hq] at e
                simp only [cond_true,Option.some.injEq,Prod.mk.injEq] at e
                obtain ⟨rfl,rfl⟩ := e
                simp only [Bool.and_eq_true,List.isEmpty_iff,Bool.not_eq_true'] at hq
                obtain ⟨q1,q2,q3⟩ := hq
                have q1 : ps = #[] := by simpa using q1
                have q2 : sl3 = #[] := by simpa using q2
                subst q1 q2
                refine ⟨f,oc,od,fd,sl,hf,hl,hc,⟨_,vs,st,tt,i1,t1,b1,i2,t2,hl2,rfl,rfl,h11,?_,h18,h7,h9,h10,?_⟩,hl3⟩
                · rw [Array.getD_eq_getD_getElem?,h11]; rfl
                · intro z
                  rw [z,Nat.beq_refl] at q3
                  cases q3
            · cases e
          · cases e
        · cases e
      · cases e
    · cases e
  · cases e
theorem tab_some {K : Frag} {x : Str} (t : tabFact K x = true) : ∃ c,tabAt K x = some (c,tabP K x) := by
  unfold tabFact at t
  obtain ⟨⟨c,p⟩,e⟩ := Option.isSome_iff_exists.mp t
  refine ⟨c,?_⟩
  unfold tabP
  rw [e]
theorem dft_of {K : Frag} {mg : Str → Option Value} {h : Heap} {x : Str} {st : Stmt} (X : (strip K).In h) (G : h.Ns mainGlobals mg) (e : fnFact (strip K) x = some (defArgs st,defBody st,defScope st,.none)) (t : tabFact K x = true) : DfT (strip K) mg x st (tabP K x) := by
  obtain ⟨f,oc,od,kV,doc,pm,an,cdv,ct,osl,h1,h2,h3,h4⟩ := fnFact_spec e
  obtain ⟨c,ht⟩ := tab_some t
  obtain ⟨f',oc',od',fd',sl',g1,g2,g3,g4,_⟩ := tabAt_spec ht
  rw [h1] at g1
  cases g1
  rw [h2] at g2
  cases g2
  have g3 : cdv = .ref c := g3
  subst g3
  exact ⟨⟨f,oc,od,kV,doc,pm,an,c,ct,osl,PySem.W.mg_of X G h1,h2,h3,h4,g4⟩⟩
def apart : List Addr → Bool
  | [] => true
  | a :: r => (r.all fun b => !(Nat.beq a b)) && apart r
def bltFact (K : Frag) : Bool := match nsIn K mainGlobals "__builtins__" with
  | some (some (.ref bm)) => (match K.lookup bm with
    | some ⟨.type "module",some d,.plain,_⟩ => !(Nat.beq bm builtinsNs) && (!(Nat.beq bm mainGlobals) && Nat.beq d builtinsNs)
    | _ => false)
  | _ => false
theorem blt_of {K : Frag} {mg : Str → Option Value} {h : Heap} (X : K.In h) (G : h.Ns mainGlobals mg) (t : bltFact K = true) : BltF K mg := by
  unfold bltFact at t
  split at t
  · rename_i bm hb
    split at t
    · rename_i d sl hl
      simp only [Bool.and_eq_true,Bool.not_eq_true'] at t
      obtain ⟨t1,t2,t3⟩ := t
      have t3 := Nat.eq_of_beq_eq_true t3
      subst t3
      refine ⟨bm,_,PySem.W.mg_of X G hb,fun z => ?_,fun z => ?_,hl,rfl,rfl,rfl⟩
      · rw [z,Nat.beq_refl] at t1; cases t1
      · rw [z,Nat.beq_refl] at t2; cases t2
    · cases t
  · cases t
theorem law_walkT {l : OpenLaw} {k : Nat} {q : Program} {loose : List Str} {XP : (Str → Option Value) → Heap → Prop} {d : DefRec} {α : Type} {facts : Frag → α} {val : α} {names : List Str} (hk : Room k callerA) (hn : l.most = some 63) (hdf : d.params.defaults = [])
    (hnm : ∀ K,facts K = val → names.all (tabFact K) = true)
    (F : ∀ (K : Frag),facts K = val → ∀ (w : World) (mg : Str → Option Value) (fa : Addr) (h : Heap),(strip K).In h → h.Ns mainGlobals mg → mg d.name = some (.ref fa) →
      ∃ fd : FuncData,(∀ (s : Shared) (u : Value),BindsTo s fd ⟨[u],[]⟩ [("script",u)]) ∧ ∀ base : Heap,(strip K).In base → base.Ns mainGlobals mg → FnOk l.prog w (strip K) mg base CX0 k fa fd ["script"] (spLawT (strip K) (names.map (tabP K)))) :
    WalkO q loose XP (Hook.says (hookT facts val)) l.row.toRowW d [] (fun f vs => PySem.call f vs) := by
  refine Att.attach_call hn hdf fun w s₀ s₁ mg mb fa o pm cd doc a vs ns G Y ho hd hcd hmg hobj hints hlen hg => ?_
  obtain ⟨K,hin,hf⟩ := Y
  have KX := strip_in hin
  obtain ⟨fd,hb,hF⟩ := F K hf w mg fa _ KX G.T.g hmg
  have ht : ∀ p ∈ names.map (tabP K),∃ c,CodeF (strip K) c p ∧ K.lookup p = some (tabObj #[]) := fun p hp => by
    obtain ⟨x,hx,rfl⟩ := List.mem_map.mp hp
    obtain ⟨c,e⟩ := tab_some (List.all_eq_true.mp (hnm K hf) x hx)
    obtain ⟨_,_,_,_,_,_,_,_,g4,g5⟩ := tabAt_spec e
    exact ⟨c,g4,g5⟩
  refine law_callT (tabs := names.map (tabP K)) KX (fun p hp => ?_) (fun p hp => ?_) (fun p hp => ?_) G.T.g G.T.b G.T.builtins G.T.nolimit hg hobj hints (Nat.le_trans hlen (by decide)) hk hF hb (fun H hS hT => ⟨a,ns,rfl,hS,hlen,hT,fun _ => rfl⟩)
  · cases e : (strip K).lookup p with
    | none => rfl
    | some o =>
      have e1 := hin _ (List.mem_filter.mp (look_mem e)).1
      obtain ⟨c,_,e2⟩ := ht p hp
      have e2 := hin _ (look_mem e2)
      have e1 : s₁.heap.get? p = some o := e1
      have e2 : s₁.heap.get? p = some (tabObj #[]) := e2
      rw [e1] at e2
      cases e2
      cases strip_tab e
  · obtain ⟨c,_,e2⟩ := ht p hp
    exact hin _ (look_mem e2)
  · obtain ⟨c,C,e2⟩ := ht p hp
    exact ((C.hd KX).tab (ps := #[]) (hin _ (look_mem e2))).isCodeTable
end Hd
namespace Hd
open PySem PySem.W PySem.Spec L2
end Hd
local macro_rules | `(tactic| walk_at "bt") => `(tactic| first
  | assumption
  | (apply L2.bits_mul <;> walk_at "bt")
  | (apply L2.bits_add2 <;> walk_at "bt")
  | (apply L2.bits_sub2 <;> walk_at "bt")
  | (apply L2.bits_neg; walk_at "bt")
  | (apply L2.bits_abs; walk_at "bt")
  | exact L2.bits_lit)
local macro_rules | `(tactic| walk_at "bl") => `(tactic| (apply L2.bits_of_le; (walk_at "bt"); decide))
local macro_rules | `(tactic| walk_at "cm") => `(tactic| first
  | exact L2.CM.l ⟨by decide,by decide⟩
  | exact L2.CM.r ⟨by decide,by decide⟩
  | (apply L2.CM.of; (walk_at "bt"); (walk_at "bt"); decide))
local macro_rules | `(tactic| walk_at "at") => `(tactic| first
  | assumption
  | exact L2.upd_same
  | (refine L2.Same.at (by assumption) ?_; walk_at "at")
  | (refine L2.SameT.at (by assumption) ?_; walk_at "at"))
local macro_rules | `(tactic| walk_at "sm") => `(tactic| first
  | assumption
  | exact L2.Same.rfl'
  | (refine L2.Same.trans ?_ (by assumption); walk_at "sm"))
local macro_rules | `(tactic| walk_at "kn") => `(tactic| first
  | assumption
  | exact ⟨_,.int _⟩ | exact ⟨_,.bl _⟩ | exact ⟨_,.str _⟩ | exact ⟨_,.non⟩
  | exact ⟨_,.tup (by walk_at "at")⟩ | exact ⟨_,.lst (by walk_at "at")⟩ | exact ⟨_,.dict (by walk_at "at")⟩)
local macro_rules | `(tactic| walk_at "nice") => `(tactic| first
  | exact L2.nice_int | exact L2.nice_bool | exact L2.nice_tuple | exact L2.nice_list | exact L2.nice_str)
local macro_rules | `(tactic| walk_at "th") => `(tactic| first
  | assumption
  | exact Sp1.th_flat .non (fun p e => nomatch e) | exact Sp1.th_flat (.int _) (fun p e => nomatch e) | exact Sp1.th_flat (.bl _) (fun p e => nomatch e) | exact Sp1.th_flat (.str _) (fun p e => nomatch e)
  | exact Sp1.th_lst (by walk_at "at")
  | (refine' Sp1.th_tup ?hat ?hkn; (case hat => walk_at "at"); (case hkn => (simp only [List.mem_cons,List.not_mem_nil,or_false,forall_eq_or_imp,forall_eq,false_imp_iff,implies_true]; (try (first | (walk_at "kn") | (repeat' apply And.intro) <;> walk_at "kn")))))
  )
local macro_rules | `(tactic| walk_at "r1") => `(tactic| first
  | (refine ⟨_,rfl,?_⟩)
  | (refine ⟨_,_,rfl,rfl,?_⟩)
  | (refine' ⟨_,_,_,_,rfl,rfl,L2.SqT.of ?hat,?hix,?nxt⟩; (case hat => walk_at "at"); (case hix => exact rfl))
  | (refine' ⟨_,_,_,_,rfl,rfl,L2.SqL.of ?hat,?hix,?nxt⟩; (case hat => walk_at "at"); (case hix => exact rfl))
  | (refine ⟨by walk_at "cm",?_⟩)
  | (refine ⟨(by show (0 : Int) < _; decide),?_⟩)
  | (refine ⟨⟨by decide,by decide⟩,?_⟩)
  | (refine ⟨⟨by decide,by decide,by decide⟩,?_⟩)
  | (refine ⟨Sp1.sz (by simp),fun _ _ _ _ _ => ?_⟩)
  | (refine ⟨Sp1.sz (by simp),L2.alloc fun _ _ _ _ => ?_⟩)
  | (refine' ⟨_,_,_,_,rfl,rfl,?hat,?hbt,Sp1.sz ?hsz,fun _ _ _ _ _ => ?nxt⟩; (case hat => walk_at "at"); (case hbt => walk_at "at"); (case hsz => simp))
  | (refine' ⟨_,_,_,_,rfl,rfl,?hat,?hbt,Sp1.sz ?hsz,L2.alloc fun _ _ _ _ => ?nxt⟩; (case hat => walk_at "at"); (case hbt => walk_at "at"); (case hsz => simp))
  | (refine' ⟨_,_,rfl,.inl (L2.SqL.of ?hat),?nxt⟩; (case hat => walk_at "at"))
  | (refine' ⟨_,_,rfl,.inr (L2.SqT.of ?hat),?nxt⟩; (case hat => walk_at "at"))
  | (refine' L2.alloc fun _ _ _ _ => ?nxt))
local macro_rules | `(tactic| walk_at "rd") => `(tactic| repeat (walk_at "r1"))
namespace K39
open PySem PySem.Spec L2 Mth Sp1 Sp2 Sp11 Sp7 Dr Wk Fnc Sk
def top (i : Nat) : Stmt := PySem.Challenge.pw_oneleash_k39_candidates_told.main.body.getD i (.Pass ⟨0,0,0,0⟩)
def hNames0 : List (Str × Nat) := [(Str.ofString "is_whole",5),(Str.ofString "common_divisor",6),(Str.ofString "plus",8),(Str.ofString "minus",9),(Str.ofString "times",10),(Str.ofString "over",11),(Str.ofString "less",12),(Str.ofString "floor_of",13),(Str.ofString "is_ratio",14),(Str.ofString "last_of",16),(Str.ofString "is_place",18),(Str.ofString "look_at_place",19),(Str.ofString "number_at",20),(Str.ofString "point_at",21),(Str.ofString "step_from",22),(Str.ofString "inner_product",23),(Str.ofString "square_between",24),(Str.ofString "square_of",25),(Str.ofString "nearest_part",26),(Str.ofString "least_along",27),(Str.ofString "first_number",29),(Str.ofString "put_in",30),(Str.ofString "square_apart",31),(Str.ofString "least_beside",32),(Str.ofString "even_squares",33),(Str.ofString "squares_beside",34),(Str.ofString "stretches_of",35),(Str.ofString "candidates",36),(Str.ofString "_law_pool",38),(Str.ofString "_law_take",39),(Str.ofString "_law_corner",40),(Str.ofString "_law_line",41),(Str.ofString "_law_second",42),(Str.ofString "_law_whole",43),(Str.ofString "_law_shared",44),(Str.ofString "_law_is_fraction",45),(Str.ofString "_law_is_pair",46),(Str.ofString "_law_are_pairs",47),(Str.ofString "_law_less",48),(Str.ofString "_law_near",49),(Str.ofString "_law_point",50),(Str.ofString "_law_apart",51),(Str.ofString "_law_square",52),(Str.ofString "_law_least",53),(Str.ofString "_law_lowest",54),(Str.ofString "_law_as_far",55),(Str.ofString "_law_along",56),(Str.ofString "law",57)]
def hNamesD : List (Str × Nat × List V) := [(Str.ofString "ratio",7,[.int 1])]
def hExc : List Str := [Str.ofString "NoRatio",Str.ofString "NoPlace"]
def hNo : List Str := [Str.ofString "abs",Str.ofString "all",Str.ofString "bool",Str.ofString "dict",Str.ofString "enumerate",Str.ofString "int",Str.ofString "isinstance",Str.ofString "len",Str.ofString "list",Str.ofString "max",Str.ofString "min",Str.ofString "range",Str.ofString "tuple",Str.ofString "zip"]
def hTup : List (Str × List V) := []
def hTabs : List Str := [Str.ofString "put_in"]
def hF0 (K : PySem.W.Frag) : List (Option (Arguments × List Stmt × Scope × Value)) := hNames0.map (fun p => Hd.fnFact K p.1)
def hG0 : List (Option (Arguments × List Stmt × Scope × Value)) := hNames0.map (fun p => some (defArgs (top p.2),defBody (top p.2),defScope (top p.2),.none))
def hF1 (K : PySem.W.Frag) : List (Option (Arguments × List Stmt × Scope × List V)) × Bool × Bool × List (Option (List V)) := (hNamesD.map (fun p => Hd.fnFactD K p.1),hExc.all (Hd.excFact K),hNo.all (Hd.noFact K),hTup.map (fun p => Hd.tupFact K p.1))
def hG1 : List (Option (Arguments × List Stmt × Scope × List V)) × Bool × Bool × List (Option (List V)) := (hNamesD.map (fun p => some (defArgs (top p.2.1),defBody (top p.2.1),defScope (top p.2.1),p.2.2)),true,true,hTup.map (fun p => some p.2))
def hF2 (K0 : PySem.W.Frag) : Bool × Bool × Bool := (hTabs.all (Hd.tabFact K0),Hd.bltFact (Hd.strip K0),Hd.apart (hTabs.map (Hd.tabP K0)))
def hG2 : Bool × Bool × Bool := (true,true,true)
def hFacts (K : PySem.W.Frag) : (List (Option (Arguments × List Stmt × Scope × Value))) × (List (Option (Arguments × List Stmt × Scope × List V)) × Bool × Bool × List (Option (List V))) × (Bool × Bool × Bool) := (hF0 (Hd.strip (K)),hF1 (Hd.strip (K)),hF2 (K))
def hGood : (List (Option (Arguments × List Stmt × Scope × Value))) × (List (Option (Arguments × List Stmt × Scope × List V)) × Bool × Bool × List (Option (List V))) × (Bool × Bool × Bool) := (hG0,hG1,hG2)
def hView : Program := PySem.W.view PySem.Challenge.pw_oneleash_k39_candidates_told [57]
def hLoose : List Str := [Str.ofString "LeashError",Str.ofString "NoRatio",Str.ofString "NoPlace",Str.ofString "is_whole",Str.ofString "common_divisor",Str.ofString "ratio",Str.ofString "plus",Str.ofString "minus",Str.ofString "times",Str.ofString "over",Str.ofString "less",Str.ofString "floor_of",Str.ofString "is_ratio",Str.ofString "last_of",Str.ofString "is_place",Str.ofString "look_at_place",Str.ofString "number_at",Str.ofString "point_at",Str.ofString "step_from",Str.ofString "inner_product",Str.ofString "square_between",Str.ofString "square_of",Str.ofString "nearest_part",Str.ofString "least_along",Str.ofString "first_number",Str.ofString "put_in",Str.ofString "square_apart",Str.ofString "least_beside",Str.ofString "even_squares",Str.ofString "squares_beside",Str.ofString "stretches_of",Str.ofString "candidates",Str.ofString "_law_pool",Str.ofString "_law_take",Str.ofString "_law_corner",Str.ofString "_law_line",Str.ofString "_law_second",Str.ofString "_law_whole",Str.ofString "_law_shared",Str.ofString "_law_is_fraction",Str.ofString "_law_is_pair",Str.ofString "_law_are_pairs",Str.ofString "_law_less",Str.ofString "_law_near",Str.ofString "_law_point",Str.ofString "_law_apart",Str.ofString "_law_square",Str.ofString "_law_least",Str.ofString "_law_lowest",Str.ofString "_law_as_far",Str.ofString "_law_along"]
noncomputable def hRunS (w : World) := (PySem.W.openEnds treeTable PySem.Challenge.pw_oneleash_k39_candidates_told w 100000).map (fun s => (PySem.W.openSeen hView hLoose (importedModules PySem.Challenge.pw_oneleash_k39_candidates_told.main.body) (fun _ => true) true s,hF0 (Hd.strip (Hd.frag s.heap)),hF1 (Hd.strip (Hd.frag s.heap)),hF2 (Hd.frag s.heap)))
noncomputable def hEndS := some (PySem.W.openGood hView hLoose,hG0,hG1,hG2)
theorem hRunS_self : @hRunS = @hRunS := rfl
theorem hEndS_self : @hEndS = @hEndS := rfl
set_option maxHeartbeats 0 in
lay_quick K39.hRunS K39.hEndS
name_quick hRunSQ for K39.hRunS by K39.hRunS_self
name_quick hEndSQ for K39.hEndS by K39.hEndS_self
set_option maxHeartbeats 0 in
theorem hQuickS (w : World) : PySem.W.Fast.hRunSQ w = PySem.W.Fast.hEndSQ := by kernel_rfl
theorem hOneS (w : World) : hRunS w = hEndS := (congrFun PySem.W.Fast.hRunSQ_eq w).trans ((hQuickS w).trans PySem.W.Fast.hEndSQ_eq.symm)
theorem hAll (w : World) : (PySem.W.openEnds treeTable PySem.Challenge.pw_oneleash_k39_candidates_told w 100000).map (fun s => (PySem.W.openSeen hView hLoose (importedModules PySem.Challenge.pw_oneleash_k39_candidates_told.main.body) (fun _ => true) true s,hFacts (Hd.frag s.heap))) = some (PySem.W.openGood hView hLoose,hGood) := by
  have rS : (PySem.W.openEnds treeTable PySem.Challenge.pw_oneleash_k39_candidates_told w 100000).map (fun s => (PySem.W.openSeen hView hLoose (importedModules PySem.Challenge.pw_oneleash_k39_candidates_told.main.body) (fun _ => true) true s,hF0 (Hd.strip (Hd.frag s.heap)),hF1 (Hd.strip (Hd.frag s.heap)),hF2 (Hd.frag s.heap))) = some (PySem.W.openGood hView hLoose,hG0,hG1,hG2) := hOneS w
  skip
  generalize (PySem.W.openEnds treeTable PySem.Challenge.pw_oneleash_k39_candidates_told w 100000) = x at *
  cases x with
  | none => cases rS
  | some s =>
    have qS := Option.some.inj rS
    show some (PySem.W.openSeen hView hLoose (importedModules PySem.Challenge.pw_oneleash_k39_candidates_told.main.body) (fun _ => true) true s,hFacts (Hd.frag s.heap)) = _
    unfold hFacts hGood
    have z := congrArg Prod.fst qS
    have q0 := (congrArg Prod.fst (congrArg Prod.snd qS))
    have q1 := (congrArg Prod.fst (congrArg Prod.snd (congrArg Prod.snd qS)))
    have q2 := (congrArg Prod.snd (congrArg Prod.snd (congrArg Prod.snd qS)))
    exact congrArg some (Hd.pair2 z (Hd.pair2 q0 (Hd.pair2 q1 q2)))
structure Txt (mg : Str → Option Value) : Prop where
  z_abs : mg "abs" = none
  z_all : mg "all" = none
  z_bool : mg "bool" = none
  z_dict : mg "dict" = none
  z_enumerate : mg "enumerate" = none
  z_int : mg "int" = none
  z_isinstance : mg "isinstance" = none
  z_len : mg "len" = none
  z_list : mg "list" = none
  z_max : mg "max" = none
  z_min : mg "min" = none
  z_range : mg "range" = none
  z_tuple : mg "tuple" = none
  z_zip : mg "zip" = none
section
variable {P : Program} {w : World} {K : PySem.W.Frag} {mg : Str → Option Value} {base : Heap}
theorem len1 {α : Type} {xs : List α} (h : xs.length = 1) : ∃ a,xs = [a] := match xs,h with | [a],_ => ⟨a,rfl⟩
def spLs : Sp := fun vs H Q _ => ∃ (p q : Addr) (a b c d : Int),vs = [.ref p,.ref q] ∧ H p = some (.tup [.int a,.int b]) ∧ H q = some (.tup [.int c,.int d]) ∧ (bits a ≤ 5000 ∧ bits b ≤ 5000 ∧ bits c ≤ 5000 ∧ bits d ≤ 5000) ∧ Q (.bl (decide (a * d < c * b))) H
def spNear : Sp := fun vs H Q _ => ∃ (p p1 p2 : Addr) (X Y b X1 Y1 b1 X2 Y2 b2 : Int),vs = [.ref p,.ref p1,.ref p2] ∧ PtAt H p X Y b 262 ∧ PtAt H p1 X1 Y1 b1 262 ∧ PtAt H p2 X2 Y2 b2 262 ∧ 0 < b ∧ 0 < b1 ∧ 0 < b2 ∧
  ∀ (r : Addr) (t u : Int) (H' : Hp),Fr2 H' r t u 4207 → NP X Y b X1 Y1 b1 X2 Y2 b2 t u → Same H H' → Q (.ref r) H'
def LeastK (l l' : Addr) (qs qs' : Crn) (t b l1 l2 h1 h2 : Int) (H : Hp) (Q : VK) : Prop := bits b ≤ 60 ∧ bits l2 ≤ 60 ∧ bits h2 ≤ 60 ∧ InS qs'.length l1 l2 h1 h2 ∧
  ∀ (r rs rp : Addr) (s w T B : Int) (H' : Hp),H' r = some (.tup [.ref rs,.ref rp]) → Fr2 H' rs s w 2103 → Plc H' rp T B (lst_ qs') → LPc (ptX qs t b) (ptY qs t b) b qs' l1 l2 h1 h2 T B → l1 * B ≤ T * l2 → T * h2 ≤ h1 * B → Frac (sqF qs t b qs' T B) (sqD b B) s w → Same H H' → Q (.ref r) H'
def spLeast (C : Addr) : Sp := fun vs H Q E => ∃ (l l' : Addr) (qs qs' : Crn) (x y z : V),vs = [.ref l,x,.ref l',y,z] ∧ LineAt H l qs ∧ LineAt H l' qs' ∧ (1 ≤ qs.length ∧ qs.length ≤ 20) ∧ (1 ≤ qs'.length ∧ qs'.length ≤ 20) ∧ Thing H x ∧ Thing H y ∧ Thing H z ∧
  ((placeV (lst_ qs) H x = false ∧ E (.ref C) none H) ∨ ∃ (p : Addr) (t b : Int),x = .ref p ∧ Plc H p t b (lst_ qs) ∧
    ((placeV (lst_ qs') H y = false ∧ ∀ H',Same H H' → E (.ref C) none H') ∨ ∃ (q : Addr) (l1 l2 : Int),y = .ref q ∧ Plc H q l1 l2 (lst_ qs') ∧
      ((placeV (lst_ qs') H z = false ∧ ∀ H',Same H H' → E (.ref C) none H') ∨ ∃ (q' : Addr) (h1 h2 : Int),z = .ref q' ∧ Plc H q' h1 h2 (lst_ qs') ∧ LeastK l l' qs qs' t b l1 l2 h1 h2 H Q)))
theorem pt_f {p : Addr} {qs : Crn} {t b : Int} {H : Hp} {G : Prop} (pl : Plc H p t b (lst_ qs)) (z : placeV ((qs.length : Int) - 1) H (.ref p) = false) : G := by
  rw [show placeV ((qs.length : Int) - 1) H (.ref p) = true from pl.place] at z
  cases z
theorem pt_t {p : Addr} {qs : Crn} {t b : Int} {H : Hp} {G : Addr → Hp → Prop} (pl : Plc H p t b (lst_ qs)) (k : ∀ (r : Addr) (H' : Hp),PtAt H' r (ptX qs t b) (ptY qs t b) b 262 → Same H H' → G r H') (p0 : Addr) (t0 b0 : Int) (e0 : V.ref p = .ref p0) (eH : H p0 = some (.tup [.int t0,.int b0])) (_ : Low t0 b0) (_ : 0 ≤ t0) (_ : t0 ≤ ((qs.length : Int) - 1) * b0) :
    bits t0 ≤ 200 ∧ bits b0 ≤ 200 ∧ ∀ (r : Addr) (H' : Hp),PtAt H' r (ptX qs t0 b0) (ptY qs t0 b0) b0 262 → Same H H' → G r H' := by
  cases e0
  have e2 := pl.at_
  rw [eH] at e2
  cases e2
  exact ⟨pl.bt,pl.bb,k⟩
theorem pt_n {qs : Crn} {x : V} {H : Hp} (no : placeV (lst_ qs) H x = false) {p0 : Addr} {t0 b0 : Int} (e0 : x = .ref p0) (eH : H p0 = some (.tup [.int t0,.int b0])) (lw : Low t0 b0) (t00 : 0 ≤ t0) (t01 : t0 ≤ ((qs.length : Int) - 1) * b0) {G : Prop} : G := by
  subst e0
  rw [show placeV (lst_ qs) H (.ref p0) = true from placeV_of eH lw t00 t01] at no
  cases no
theorem pt_rp {H : Hp} {r : Addr} {u v c d : Int} {n : Nat} (p : PtF H r u v c d n) : Rp H 9 (.ref r) (.tup [.tup [.int u,.int v],.tup [.int c,.int d]]) := by
  obtain ⟨rx,ry,e,f,g⟩ := p.ex
  exact Rp.t2 e (Rp.t2 f.at_ .int .int) (Rp.t2 g.at_ .int .int)
theorem fr_same {X1 b1 X2 b2 u1 v1 u2 v2 : Int} (h1 : b1 ≠ 0) (h2 : b2 ≠ 0) (f : Frac X1 b1 u1 v1) (g : Frac X2 b2 u2 v2) : X1 * b2 = X2 * b1 ↔ (u1 = u2 ∧ v1 = v2) := by
  have e1 := rq_of f h1
  have e2 := rq_of g h2
  constructor
  · intro h
    refine low_unique f.low g.low (rq_eq (nzl f.low) (nzl g.low) ?_)
    rw [e1,e2]
    have q1 := cz h1
    have q2 := cz h2
    have h3 : (X1 : Rat) * (b2 : Rat) = (X2 : Rat) * (b1 : Rat) := by rw [← Rat.intCast_mul,← Rat.intCast_mul,h]
    unfold rq
    grind
  · rintro ⟨rfl,rfl⟩
    exact rq_eq h1 h2 (by rw [← e1,← e2])
theorem fn_imp {x : Str} {ps : List Str} {k : Nat} {sp sp' : Sp} (F : Fn P w K mg base x ps k sp) (h : ∀ vs H Q E,sp' vs H Q E → sp vs H Q E) : Fn P w K mg base x ps k sp' := by
  obtain ⟨f,fd,o,h1,h2,h3,h4,h6⟩ := F.ex
  exact ⟨⟨f,fd,o,h1,h2,h3,h4,h6.imp h⟩⟩
theorem less_weak (F : Fn P w K mg base "less" ["a","b"] 1 spLs) : Fn P w K mg base "less" ["a","b"] 1 spLess :=
  fn_imp F fun vs H Q E ⟨p,q,a,b,c,d,e,h1,h2,⟨b1,b2,b3,b4⟩,k⟩ => ⟨p,q,a,b,c,d,e,h1,h2,⟨bits_le b1 (by decide),bits_le b2 (by decide),bits_le b3 (by decide),bits_le b4 (by decide)⟩,k⟩
theorem S_is_whole : FnScope ["thing"] ["thing"] (defScope (top 5)) := ⟨rfl,rfl,rfl,by decide +kernel,rfl,by decide +kernel,by decide +kernel⟩
theorem fn_is_whole (D_is_whole : Df K mg "is_whole" (top 5)) (T : Txt mg) : Fn P w K mg base "is_whole" ["thing"] 1 spWhole := by
  refine D_is_whole.fn S_is_whole (fun _ _ _ _ _ _ us hl => by obtain ⟨_,rfl⟩ := len1 hl; rfl) (fun vs H Q E h => ?_) (fun f cdv A outer s H vs Q E hr h => ?_)
  · obtain ⟨x,t,rfl,_⟩ := h
    rfl
  · obtain ⟨x,t,rfl,k,q⟩ := h
    refine ⟨_,(pss_one (ps_ret (pe_and (pe_callB call_isinst (by rfl) T.z_isinstance bt_isinstance (pa_cons (pv 0) (pa_cons (pe_ty T.z_int bt_int) pa_nil))) (pe_one (pe_not (pe_callB call_isinst (by rfl) T.z_isinstance bt_isinstance (pa_cons (pv 0) (pa_cons (pe_ty T.z_bool bt_bool) pa_nil)))))))),?_⟩
    refine ⟨_,rfl,x,t,"int",rfl,k,.inl rfl,_,rfl,?_⟩
    refine ite3 (fun hc => ?_) (fun hc => ?_)
    · refine ⟨_,rfl,x,t,"bool",rfl,k,.inr (.inl rfl),_,rfl,?_⟩
      rw [(whole_sub k).1 hc]
      exact q
    · rw [(whole_sub k).2 hc] at q
      exact q
theorem S_common_divisor : FnScope ["one","other","rest"] ["one","other"] (defScope (top 6)) := ⟨rfl,rfl,rfl,by decide +kernel,rfl,by decide +kernel,by decide +kernel⟩
theorem fn_common_divisor (D_common_divisor : Df K mg "common_divisor" (top 6)) (T : Txt mg) : Fn P w K mg base "common_divisor" ["one","other"] 1 spGcd := by
  refine D_common_divisor.fn S_common_divisor (fun _ _ _ _ _ _ us hl => by obtain ⟨_,_,rfl⟩ := len2 hl; rfl) (fun vs H Q E h => ?_) (fun f cdv A outer s H vs Q E hr h => ?_)
  · obtain ⟨a,b,rfl,_⟩ := h
    rfl
  · obtain ⟨a,b,rfl,q⟩ := h
    refine ⟨_,(pss_cons (ps_set (i := 0) S_common_divisor.nd rfl (Or.inl rfl) (pe_callB call_abs (by rfl) T.z_abs bt_abs (pa_cons (pv 0) pa_nil))) (pss_cons (ps_set (i := 1) S_common_divisor.nd rfl (Or.inl rfl) (pe_callB call_abs (by rfl) T.z_abs bt_abs (pa_cons (pv 1) pa_nil))) (pss_cons (ps_while PassesOwn.never (pt_cmpR op_ne (pv 1) pe_int (nomark _)) (pss_cons (ps_set (i := 2) S_common_divisor.nd rfl (Or.inl rfl) (pe_op op_mod (pv 0) (pv 1))) (pss_cons (ps_set (i := 0) S_common_divisor.nd rfl (Or.inl rfl) (pv 1)) (pss_one (ps_set (i := 1) S_common_divisor.nd rfl (Or.inl rfl) (pv 2)))))) (pss_one (ps_ret (pv 0)))))),?_⟩
    refine ⟨_,rfl,a,rfl,_,rfl,b,rfl,?_⟩
    refine while_by (fun σ H' => ∃ x y r,σ = [some (.int x),some (.int y),r] ∧ H' = H ∧ 0 ≤ x ∧ 0 ≤ y ∧ Int.gcd x y = Int.gcd a b)
      (fun σ _ => match σ with | [_,some (.int y),_] => y.toNat | _ => 0) ⟨_,_,_,rfl,rfl,abs_nonneg a,abs_nonneg b,by rw [gcd_abs,gcd_abs']⟩ ?_ ?_
    · rintro σ H' ⟨x,y,r,rfl,rfl,hx,hy,hg⟩
      refine ⟨_,rfl,rfl,_,rfl,?_⟩
      refine ite3 (fun hc => ?_) (fun hc => ?_)
      · have hy0 : ¬ y = 0 := by simpa using hc
        have hy1 : 0 < y := by omega
        refine ⟨_,rfl,_,rfl,x,y,rfl,rfl,hy1,_,rfl,_,rfl,⟨y,x % y,_,rfl,rfl,hy,Int.emod_nonneg _ hy0,?_⟩,?_⟩
        · rw [gcd_step hx hy1]
          exact hg
        · have h1 := Int.emod_lt_of_pos x hy1
          have h2 := Int.emod_nonneg x hy0
          show (x % y).toNat < y.toNat
          omega
      · have hy0 : y = 0 := by simpa using hc
        subst hy0
        refine ⟨_,rfl,?_⟩
        have e : (Int.gcd a b : Int) = x := by rw [← hg]; exact gcd_zero hx
        rw [e] at q
        exact q
    · rintro σ H' Q1 Q2 hq ⟨v,e,hs,k,ek,r⟩
      exact ⟨v,e,hs,k,ek,hq _ _ r⟩
theorem S_ratio : FnScope ["top","bottom","divisor"] ["top","bottom"] (defScope (top 7)) := ⟨rfl,rfl,rfl,by decide +kernel,rfl,by decide +kernel,by decide +kernel⟩
theorem fn_ratio {C : Addr} (D_ratio : DfD K mg "ratio" (top 7) [.int 1]) (O_NoRatio : ExcC K mg "NoRatio" C) (F_is_whole : Fn P w K mg base "is_whole" ["thing"] 1 spWhole) (F_common_divisor : Fn P w K mg base "common_divisor" ["one","other"] 1 spGcd) : Fx P w K mg base "ratio" ["top","bottom"] 2 [.int 1] (spRatioN C) := by
  refine D_ratio.fx S_ratio (fun T kV doc pm an cdv ct us its oT n s hv hl ho hs => ?_) (fun T kV doc pm an cdv ct us its oT n s hv hl ho hs => ?_) (fun vs H Q E h => ?_) (fun f cdv A outer s H vs Q E hr h => ?_)
  · obtain ⟨u,rfl,_⟩ := vals1 hv
    match us,hl with
    | [_,_],_ => exact BindsTo.of_defaults rfl ho hs rfl rfl
  · obtain ⟨u,rfl,_⟩ := vals1 hv
    have hl1 : us.length = 1 := by simpa using hl
    match us,hl1 with
    | [_],_ => exact BindsTo.of_defaults rfl ho hs rfl rfl
  · obtain ⟨a,b,nb,rfl,_⟩ := h
    rfl
  · obtain ⟨a,b,nb,rfl,⟨ba,bb,hnb⟩,k0,k1⟩ := h
    refine ⟨_,(pss_cons (ps_if (pw_or (pt_not (pt_val (pe_fn F_is_whole (hr.mono (by decide)) (by rfl) (pa_cons (pv 0) pa_nil)))) (pw_or (pt_not (pt_val (pe_fn F_is_whole (hr.mono (by decide)) (by rfl) (pa_cons (pv 1) pa_nil)))) (pw_or1 (pt_cmpR op_eq (pv 1) pe_int (nomark _))))).pt (pss_one (ps_raise O_NoRatio (by rfl))) pss_nil) (pss_cons (ps_set (i := 2) S_ratio.nd rfl (Or.inl rfl) (pe_fn F_common_divisor (hr.mono (by decide)) (by rfl) (pa_cons (pv 0) (pa_cons (pv 1) pa_nil)))) (pss_cons (ps_if (pt_cmpR op_lt (pv 1) pe_int (nomark _)) (pss_one (ps_set (i := 2) S_ratio.nd rfl (Or.inl rfl) (pe_un un_neg (pv 2)))) pss_nil) (pss_one (ps_ret (pe_tup (pa_cons (pe_op op_fdivZ (pv 0) (pv 2)) (pa_cons (pe_op op_fdivZ (pv 1) (pv 2)) pa_nil)))))))),?_⟩
    refine ⟨_,rfl,_,_,rfl,.int a,_,rfl,iteF ?_⟩
    refine ⟨_,rfl,_,_,rfl,.int b,_,rfl,iteF ?_⟩
    refine ⟨_,rfl,rfl,_,rfl,?_⟩
    refine ite3 (fun hc => ?_) (fun hc => ?_)
    · exact k0 (by simpa using hc)
    · have hb : b ≠ 0 := by simpa using hc
      have hg := gcd_pos (a := a) (b := b) hb
      have bg : bits (Int.gcd a b : Int) ≤ 8000 := bits_le (gcd_bits2 hb bb) (by omega)
      refine ⟨_,rfl,_,rfl,a,b,rfl,?_⟩
      refine ⟨_,rfl,_,_,rfl,rfl,_,rfl,?_⟩
      refine ite3 (fun hd => ?_) (fun hd => ?_)
      · have hlt : b < 0 := by simpa using hd
        refine ⟨_,rfl,_,rfl,?_⟩
        refine ⟨_,rfl,_,rfl,_,_,rfl,rfl,⟨by omega,bits_neg bg⟩,_,rfl,_,rfl,_,_,rfl,rfl,⟨by omega,bits_neg bg⟩,sz (by simp),fun p hp => ?_⟩
        exact k1 hb p _ _ (frac_fdiv hb _ (by rw [if_pos hlt])) (bits_fdiv ba) (bits_fdiv bb) hp
      · have hlt : ¬ b < 0 := by simpa using hd
        refine ⟨_,rfl,_,rfl,_,_,rfl,rfl,⟨by omega,bg⟩,_,rfl,_,rfl,_,_,rfl,rfl,⟨by omega,bg⟩,sz (by simp),fun p hp => ?_⟩
        exact k1 hb p _ _ (frac_fdiv hb _ (by rw [if_neg hlt])) (bits_fdiv ba) (bits_fdiv bb) hp
theorem S_floor_of : FnScope ["a"] ["a"] (defScope (top 13)) := ⟨rfl,rfl,rfl,by decide +kernel,rfl,by decide +kernel,by decide +kernel⟩
theorem fn_floor_of (D_floor_of : Df K mg "floor_of" (top 13)) : Fn P w K mg base "floor_of" ["a"] 1 spFloor := by
  refine D_floor_of.fn S_floor_of (fun _ _ _ _ _ _ us hl => by obtain ⟨_,rfl⟩ := len1 hl; rfl) (fun vs H Q E h => ?_) (fun f cdv A outer s H vs Q E hr h => ?_)
  · obtain ⟨p,a,b,rfl,_⟩ := h
    rfl
  · obtain ⟨p,a,b,rfl,hp,⟨hb,bb⟩,k⟩ := h
    refine ⟨_,(pss_one (ps_ret (pe_op op_fdivP (pe_ix ix_tup (pv 0) pe_int (fun _ _ => rfl)) (pe_ix ix_tup (pv 0) pe_int (fun _ _ => rfl))))),?_⟩
    exact ⟨_,rfl,p,_,_,_,rfl,rfl,SqT.of hp,rfl,_,rfl,p,_,_,_,rfl,rfl,SqT.of hp,rfl,a,b,rfl,rfl,⟨hb,bits_le bb (by decide)⟩,k⟩
theorem S_is_ratio : FnScope ["thing"] ["thing"] (defScope (top 14)) := ⟨rfl,rfl,rfl,by decide +kernel,rfl,by decide +kernel,by decide +kernel⟩
theorem fn_is_ratio (D_is_ratio : Df K mg "is_ratio" (top 14)) (F_is_whole : Fn P w K mg base "is_whole" ["thing"] 1 spWhole) (F_common_divisor : Fn P w K mg base "common_divisor" ["one","other"] 1 spGcd) (T : Txt mg) : Fn P w K mg base "is_ratio" ["thing"] 2 spLow := by
  refine D_is_ratio.fn S_is_ratio (fun _ _ _ _ _ _ us hl => by obtain ⟨_,rfl⟩ := len1 hl; rfl) (fun vs H Q E h => ?_) (fun f cdv A outer s H vs Q E hr h => ?_)
  · obtain ⟨x,rfl,_⟩ := h
    rfl
  · obtain ⟨x,rfl,th,q⟩ := h
    obtain ⟨t,k⟩ := th.kn
    refine ⟨_,(pss_cons (ps_if (pw_or (pt_not (pt_val (pe_callB call_isinst (by rfl) T.z_isinstance bt_isinstance (pa_cons (pv 0) (pa_cons (pe_ty T.z_tuple bt_tuple) pa_nil))))) (pw_or1 (pt_cmpR op_ne (pe_callB call_len_seq (by rfl) T.z_len bt_len (pa_cons (pv 0) pa_nil)) pe_int (nomark _)))).pt (pss_one (ps_ret pe_bl)) pss_nil) (pss_cons (ps_if (pw_or (pt_not (pt_val (pe_fn F_is_whole (hr.mono (by decide)) (by rfl) (pa_cons (pe_ix ix_tup (pv 0) pe_int (fun _ _ => rfl)) pa_nil)))) (pw_or1 (pt_not (pt_val (pe_fn F_is_whole (hr.mono (by decide)) (by rfl) (pa_cons (pe_ix ix_tup (pv 0) pe_int (fun _ _ => rfl)) pa_nil)))))).pt (pss_one (ps_ret pe_bl)) pss_nil) (pss_one (ps_ret (pe_and (pe_cmpR op_ge (pe_ix ix_tup (pv 0) pe_int (fun _ _ => rfl)) pe_int (nomark _)) (pe_one (pe_cmpR op_eq (pe_fn F_common_divisor (hr.mono (by decide)) (by rfl) (pa_cons (pe_ix ix_tup (pv 0) pe_int (fun _ _ => rfl)) (pa_cons (pe_ix ix_tup (pv 0) pe_int (fun _ _ => rfl)) pa_nil))) pe_int (nomark _)))))))),?_⟩
    refine ⟨_,rfl,x,t,"tuple",rfl,k,.inr (.inr (.inl rfl)),_,rfl,?_⟩
    rcases Kn.cases_tup k with ⟨p,xs,rfl,e,rfl⟩ | ⟨hl,hs⟩
    · -- a tuple
      rw [lowV_tup e] at q
      refine iteF ?_
      refine ⟨_,rfl,p,xs,rfl,.inr (SqT.of e),rfl,_,rfl,?_⟩
      refine ite3 (fun hc => ?_) (fun hc => ?_)
      · have hn : xs.length ≠ 2 := by
          intro z
          rw [z] at hc
          exact absurd hc (by decide)
        rw [lowL_len hn] at q
        exact q
      · have hn : xs.length = 2 := by
          have z : (xs.length : Int) = 2 := by simpa using hc
          omega
        match xs,hn,e,q with
        | [y,z],_,e,q =>
          obtain ⟨ty,ky⟩ := th.parts p _ rfl e y (by simp)
          obtain ⟨tz,kz⟩ := th.parts p _ rfl e z (by simp)
          refine ⟨_,rfl,p,_,_,_,rfl,rfl,SqT.of e,rfl,y,ty,rfl,ky,_,rfl,?_⟩
          rcases Kn.cases_int ky with ⟨a,rfl,rfl⟩ | ⟨ny,ey⟩
          · refine iteF ?_
            refine ⟨_,rfl,p,_,_,_,rfl,rfl,SqT.of e,rfl,z,tz,rfl,kz,_,rfl,?_⟩
            rcases Kn.cases_int kz with ⟨b,rfl,rfl⟩ | ⟨nz,ez⟩
            · refine iteF ?_
              refine ⟨_,rfl,p,_,_,_,rfl,rfl,SqT.of e,rfl,b,1,rfl,rfl,_,rfl,?_⟩
              have q' : Q (.bl (lowB a b)) H := q
              unfold lowB at q'
              refine ite3 (fun hc => ?_) (fun hc => ?_)
              · refine ⟨_,rfl,p,_,_,_,rfl,rfl,SqT.of e,rfl,_,rfl,p,_,_,_,rfl,rfl,SqT.of e,rfl,a,b,rfl,rfl,?_⟩
                rw [hc,Bool.true_and] at q'
                have e1 : decide (V.int (Int.gcd a b : Int) = V.int 1) = decide (Int.gcd a b = 1) := by
                  rw [Bool.eq_iff_iff]
                  simp
                  omega
                rw [← e1] at q'
                exact q'
              · rw [hc,Bool.false_and] at q'
                exact q'
            · rw [ez,lowL_snd nz] at *
              exact q
          · rw [ey,lowL_fst ny] at *
            exact q
    · rw [hs]
      rw [hl] at q
      exact q
theorem S_last_of : FnScope ["line"] ["line"] (defScope (top 16)) := ⟨rfl,rfl,rfl,by decide +kernel,rfl,by decide +kernel,by decide +kernel⟩
theorem fn_last_of (D_last_of : Df K mg "last_of" (top 16)) (T : Txt mg) : Fn P w K mg base "last_of" ["line"] 1 spLast := by
  refine D_last_of.fn S_last_of (fun _ _ _ _ _ _ us hl => by obtain ⟨_,rfl⟩ := len1 hl; rfl) (fun vs H Q E h => ?_) (fun f cdv A outer s H vs Q E hr h => ?_)
  · obtain ⟨p,xs,rfl,_⟩ := h
    rfl
  · obtain ⟨p,xs,rfl,e,q⟩ := h
    exact ⟨_,(pss_one (ps_ret (pe_op op_sub (pe_callB call_len_seq (by rfl) T.z_len bt_len (pa_cons (pv 0) pa_nil)) pe_int))),_,rfl,p,xs,rfl,.inl (SqL.of e),_,_,rfl,rfl,q⟩
theorem S_is_place : FnScope ["line","thing"] ["line","thing"] (defScope (top 18)) := ⟨rfl,rfl,rfl,by decide +kernel,rfl,by decide +kernel,by decide +kernel⟩
theorem fn_is_place (D_is_place : Df K mg "is_place" (top 18)) (F_is_ratio : Fn P w K mg base "is_ratio" ["thing"] 2 spLow) (F_last_of : Fn P w K mg base "last_of" ["line"] 1 spLast) : Fn P w K mg base "is_place" ["line","thing"] 3 spIsPlace := by
  refine D_is_place.fn S_is_place (fun _ _ _ _ _ _ us hl => by obtain ⟨_,_,rfl⟩ := len2 hl; rfl) (fun vs H Q E h => ?_) (fun f cdv A outer s H vs Q E hr h => ?_)
  · obtain ⟨p,xs,x,rfl,_⟩ := h
    rfl
  · obtain ⟨p,xs,x,rfl,e,hl,th,q⟩ := h
    refine ⟨_,(pss_one (ps_ret (pe_and (pe_fn F_is_ratio (hr.mono (by decide)) (by rfl) (pa_cons (pv 1) pa_nil)) (pe_one (pe_chain op_le op_le pe_int (pe_ix ix_tup (pv 1) pe_int (fun _ _ => rfl)) (pe_op op_mulX (pe_fn F_last_of (hr.mono (by decide)) (by rfl) (pa_cons (pv 0) pa_nil)) (pe_ix ix_tup (pv 1) pe_int (fun _ _ => rfl)))))))),?_⟩
    refine ⟨_,rfl,x,rfl,th,_,rfl,ite3 (fun hc => ?_) (fun hc => ?_)⟩
    · obtain ⟨u,a,b,rfl,eu,lw⟩ := lowV_inv hc
      rw [placeV_tup eu,low_B lw,Bool.true_and] at q
      refine ⟨_,rfl,u,_,_,_,rfl,rfl,SqT.of eu,rfl,_,_,rfl,rfl,_,rfl,ite3 (fun hd => ?_) (fun hd => ?_)⟩
      · rw [hd,Bool.true_and] at q
        exact ⟨_,rfl,p,xs,rfl,e,_,rfl,u,_,_,_,rfl,rfl,SqT.of eu,rfl,_,_,rfl,rfl,CM.l (lt64s (by omega) (by omega)),_,_,rfl,rfl,q⟩
      · rw [hd,Bool.false_and] at q
        exact q
    · rw [placeV_low hc] at q
      exact q
theorem S_look_at_place : FnScope ["line","thing"] ["line","thing"] (defScope (top 19)) := ⟨rfl,rfl,rfl,by decide +kernel,rfl,by decide +kernel,by decide +kernel⟩
theorem fn_look_at_place {C : Addr} (D_look_at_place : Df K mg "look_at_place" (top 19)) (O_NoPlace : ExcC K mg "NoPlace" C) (F_is_place : Fn P w K mg base "is_place" ["line","thing"] 3 spIsPlace) : Fx P w K mg base "look_at_place" ["line","thing"] 4 [] (spLook C) := by
  refine D_look_at_place.fx S_look_at_place (fun _ _ _ _ _ _ us hl => by obtain ⟨_,_,rfl⟩ := len2 hl; rfl) (fun vs H Q E h => ?_) (fun f cdv A outer s H vs Q E hr h => ?_)
  · obtain ⟨p,xs,x,rfl,_⟩ := h
    rfl
  · obtain ⟨p,xs,x,rfl,e,hl,th,k0,k1⟩ := h
    refine ⟨_,(pss_one (ps_if (pt_not (pt_val (pe_fn F_is_place (hr.mono (by decide)) (by rfl) (pa_cons (pv 0) (pa_cons (pv 1) pa_nil))))) (pss_one (ps_raise O_NoPlace (by rfl))) pss_nil)),?_⟩
    refine ⟨_,rfl,_,rfl,p,xs,x,rfl,e,hl,th,_,rfl,ite3 (fun hc => ?_) (fun hc => ?_)⟩
    · exact k0 (by simpa using hc)
    · exact k1 (by simpa using hc)
theorem S_plus : FnScope ["a","b"] ["a","b"] (defScope (top 8)) := ⟨rfl,rfl,rfl,by decide +kernel,rfl,by decide +kernel,by decide +kernel⟩
theorem fn_plus {C : Addr} (D_plus : Df K mg "plus" (top 8)) (F_ratio : Fx P w K mg base "ratio" ["top","bottom"] 2 [.int 1] (spRatioN C)) : Fn P w K mg base "plus" ["a","b"] 3 (spBin (fun a b c d => a * d + c * b) (fun a b c d => b * d)) := by
  refine D_plus.fn S_plus (fun _ _ _ _ _ _ us hl => by obtain ⟨_,_,rfl⟩ := len2 hl; rfl) (fun vs H Q E h => ?_) (fun f cdv A outer s H vs Q E hr h => ?_)
  · obtain ⟨p,q,a,b,c,d,n,rfl,_⟩ := h
    rfl
  · obtain ⟨p,q,a,b,c,d,n,rfl,fp,fq,hn,hden,k⟩ := h
    have ep := fp.at_
    have eq := fq.at_
    have cm : ∀ {i j : Int},bits i ≤ n → bits j ≤ n → CM i j := fun hi hj => CM.b hi hj (Nat.le_trans hn (by decide)) (Nat.le_trans hn (by decide))
    have fin : ∀ (r : Addr) (t u : Int),Frac (a * d + c * b) (b * d) t u → bits t ≤ 2 * n + 1 → bits u ≤ 2 * n + 1 → H r = none → Q (.ref r) (upd H r (.tup [.int t,.int u])) := fun r t u fr bt bu hr' => by
      obtain ⟨H1,e1,s1,f1⟩ := grow (o := .tup [.int t,.int u]) hr'
      rw [e1]
      exact k r t u H1 fr ⟨f1,fr.low,bt,bu⟩ s1
    refine ⟨_,(pss_one (ps_ret (pe_fx0 F_ratio (hr.mono (by decide)) (by rfl) (pa_cons (pe_op op_add (pe_op op_mulX (pe_ix ix_tup (pv 0) pe_int (fun _ _ => rfl)) (pe_ix ix_tup (pv 1) pe_int (fun _ _ => rfl))) (pe_op op_mulX (pe_ix ix_tup (pv 1) pe_int (fun _ _ => rfl)) (pe_ix ix_tup (pv 0) pe_int (fun _ _ => rfl)))) (pa_cons (pe_op op_mulX (pe_ix ix_tup (pv 0) pe_int (fun _ _ => rfl)) (pe_ix ix_tup (pv 1) pe_int (fun _ _ => rfl))) pa_nil))))),?_⟩
    refine ⟨_,rfl,p,_,_,_,rfl,rfl,SqT.of ep,rfl,_,rfl,q,_,_,_,rfl,rfl,SqT.of eq,rfl,_,_,rfl,rfl,cm fp.ba fq.bb,_,rfl,q,_,_,_,rfl,rfl,SqT.of eq,rfl,_,rfl,p,_,_,_,rfl,rfl,SqT.of ep,rfl,_,_,rfl,rfl,cm fq.ba fp.bb,_,_,rfl,rfl,?_⟩
    refine ⟨_,rfl,p,_,_,_,rfl,rfl,SqT.of ep,rfl,_,rfl,q,_,_,_,rfl,rfl,SqT.of eq,rfl,_,_,rfl,rfl,cm fp.bb fq.bb,_,_,2 * n + 1,rfl,⟨bits_le (bits_add (n := 2 * n) (bits_le (bits_mul fp.ba fq.bb) (by omega)) (bits_le (bits_mul fq.ba fp.bb) (by omega))) (by omega),bits_le (bits_mul fp.bb fq.bb) (by omega),by omega⟩,fun z => absurd z hden,fun _ r t u fr bt bu hr' => fin r t u fr bt bu hr'⟩
theorem S_minus : FnScope ["a","b"] ["a","b"] (defScope (top 9)) := ⟨rfl,rfl,rfl,by decide +kernel,rfl,by decide +kernel,by decide +kernel⟩
theorem fn_minus {C : Addr} (D_minus : Df K mg "minus" (top 9)) (F_ratio : Fx P w K mg base "ratio" ["top","bottom"] 2 [.int 1] (spRatioN C)) : Fn P w K mg base "minus" ["a","b"] 3 (spBin (fun a b c d => a * d - c * b) (fun a b c d => b * d)) := by
  refine D_minus.fn S_minus (fun _ _ _ _ _ _ us hl => by obtain ⟨_,_,rfl⟩ := len2 hl; rfl) (fun vs H Q E h => ?_) (fun f cdv A outer s H vs Q E hr h => ?_)
  · obtain ⟨p,q,a,b,c,d,n,rfl,_⟩ := h
    rfl
  · obtain ⟨p,q,a,b,c,d,n,rfl,fp,fq,hn,hden,k⟩ := h
    have ep := fp.at_
    have eq := fq.at_
    have cm : ∀ {i j : Int},bits i ≤ n → bits j ≤ n → CM i j := fun hi hj => CM.b hi hj (Nat.le_trans hn (by decide)) (Nat.le_trans hn (by decide))
    have fin : ∀ (r : Addr) (t u : Int),Frac (a * d - c * b) (b * d) t u → bits t ≤ 2 * n + 1 → bits u ≤ 2 * n + 1 → H r = none → Q (.ref r) (upd H r (.tup [.int t,.int u])) := fun r t u fr bt bu hr' => by
      obtain ⟨H1,e1,s1,f1⟩ := grow (o := .tup [.int t,.int u]) hr'
      rw [e1]
      exact k r t u H1 fr ⟨f1,fr.low,bt,bu⟩ s1
    refine ⟨_,(pss_one (ps_ret (pe_fx0 F_ratio (hr.mono (by decide)) (by rfl) (pa_cons (pe_op op_sub (pe_op op_mulX (pe_ix ix_tup (pv 0) pe_int (fun _ _ => rfl)) (pe_ix ix_tup (pv 1) pe_int (fun _ _ => rfl))) (pe_op op_mulX (pe_ix ix_tup (pv 1) pe_int (fun _ _ => rfl)) (pe_ix ix_tup (pv 0) pe_int (fun _ _ => rfl)))) (pa_cons (pe_op op_mulX (pe_ix ix_tup (pv 0) pe_int (fun _ _ => rfl)) (pe_ix ix_tup (pv 1) pe_int (fun _ _ => rfl))) pa_nil))))),?_⟩
    refine ⟨_,rfl,p,_,_,_,rfl,rfl,SqT.of ep,rfl,_,rfl,q,_,_,_,rfl,rfl,SqT.of eq,rfl,_,_,rfl,rfl,cm fp.ba fq.bb,_,rfl,q,_,_,_,rfl,rfl,SqT.of eq,rfl,_,rfl,p,_,_,_,rfl,rfl,SqT.of ep,rfl,_,_,rfl,rfl,cm fq.ba fp.bb,_,_,rfl,rfl,?_⟩
    refine ⟨_,rfl,p,_,_,_,rfl,rfl,SqT.of ep,rfl,_,rfl,q,_,_,_,rfl,rfl,SqT.of eq,rfl,_,_,rfl,rfl,cm fp.bb fq.bb,_,_,2 * n + 1,rfl,⟨bits_le (bits_sub (n := 2 * n) (bits_le (bits_mul fp.ba fq.bb) (by omega)) (bits_le (bits_mul fq.ba fp.bb) (by omega))) (by omega),bits_le (bits_mul fp.bb fq.bb) (by omega),by omega⟩,fun z => absurd z hden,fun _ r t u fr bt bu hr' => fin r t u fr bt bu hr'⟩
theorem S_times : FnScope ["a","b"] ["a","b"] (defScope (top 10)) := ⟨rfl,rfl,rfl,by decide +kernel,rfl,by decide +kernel,by decide +kernel⟩
theorem fn_times {C : Addr} (D_times : Df K mg "times" (top 10)) (F_ratio : Fx P w K mg base "ratio" ["top","bottom"] 2 [.int 1] (spRatioN C)) : Fn P w K mg base "times" ["a","b"] 3 (spBin (fun a b c d => a * c) (fun a b c d => b * d)) := by
  refine D_times.fn S_times (fun _ _ _ _ _ _ us hl => by obtain ⟨_,_,rfl⟩ := len2 hl; rfl) (fun vs H Q E h => ?_) (fun f cdv A outer s H vs Q E hr h => ?_)
  · obtain ⟨p,q,a,b,c,d,n,rfl,_⟩ := h
    rfl
  · obtain ⟨p,q,a,b,c,d,n,rfl,fp,fq,hn,hden,k⟩ := h
    have ep := fp.at_
    have eq := fq.at_
    have cm : ∀ {i j : Int},bits i ≤ n → bits j ≤ n → CM i j := fun hi hj => CM.b hi hj (Nat.le_trans hn (by decide)) (Nat.le_trans hn (by decide))
    have fin : ∀ (r : Addr) (t u : Int),Frac (a * c) (b * d) t u → bits t ≤ 2 * n + 1 → bits u ≤ 2 * n + 1 → H r = none → Q (.ref r) (upd H r (.tup [.int t,.int u])) := fun r t u fr bt bu hr' => by
      obtain ⟨H1,e1,s1,f1⟩ := grow (o := .tup [.int t,.int u]) hr'
      rw [e1]
      exact k r t u H1 fr ⟨f1,fr.low,bt,bu⟩ s1
    refine ⟨_,(pss_one (ps_ret (pe_fx0 F_ratio (hr.mono (by decide)) (by rfl) (pa_cons (pe_op op_mulX (pe_ix ix_tup (pv 0) pe_int (fun _ _ => rfl)) (pe_ix ix_tup (pv 1) pe_int (fun _ _ => rfl))) (pa_cons (pe_op op_mulX (pe_ix ix_tup (pv 0) pe_int (fun _ _ => rfl)) (pe_ix ix_tup (pv 1) pe_int (fun _ _ => rfl))) pa_nil))))),?_⟩
    exact ⟨_,rfl,p,_,_,_,rfl,rfl,SqT.of ep,rfl,_,rfl,q,_,_,_,rfl,rfl,SqT.of eq,rfl,_,_,rfl,rfl,cm fp.ba fq.ba,_,rfl,p,_,_,_,rfl,rfl,SqT.of ep,rfl,_,rfl,q,_,_,_,rfl,rfl,SqT.of eq,rfl,_,_,rfl,rfl,cm fp.bb fq.bb,_,_,2 * n + 1,rfl,⟨bits_le (bits_mul fp.ba fq.ba) (by omega),bits_le (bits_mul fp.bb fq.bb) (by omega),by omega⟩,fun z => absurd z hden,fun _ r t u fr bt bu hr' => fin r t u fr bt bu hr'⟩
theorem S_over : FnScope ["a","b"] ["a","b"] (defScope (top 11)) := ⟨rfl,rfl,rfl,by decide +kernel,rfl,by decide +kernel,by decide +kernel⟩
theorem fn_over {C : Addr} (D_over : Df K mg "over" (top 11)) (F_ratio : Fx P w K mg base "ratio" ["top","bottom"] 2 [.int 1] (spRatioN C)) : Fn P w K mg base "over" ["a","b"] 3 (spBin (fun a b c d => a * d) (fun a b c d => b * c)) := by
  refine D_over.fn S_over (fun _ _ _ _ _ _ us hl => by obtain ⟨_,_,rfl⟩ := len2 hl; rfl) (fun vs H Q E h => ?_) (fun f cdv A outer s H vs Q E hr h => ?_)
  · obtain ⟨p,q,a,b,c,d,n,rfl,_⟩ := h
    rfl
  · obtain ⟨p,q,a,b,c,d,n,rfl,fp,fq,hn,hden,k⟩ := h
    have ep := fp.at_
    have eq := fq.at_
    have cm : ∀ {i j : Int},bits i ≤ n → bits j ≤ n → CM i j := fun hi hj => CM.b hi hj (Nat.le_trans hn (by decide)) (Nat.le_trans hn (by decide))
    have fin : ∀ (r : Addr) (t u : Int),Frac (a * d) (b * c) t u → bits t ≤ 2 * n + 1 → bits u ≤ 2 * n + 1 → H r = none → Q (.ref r) (upd H r (.tup [.int t,.int u])) := fun r t u fr bt bu hr' => by
      obtain ⟨H1,e1,s1,f1⟩ := grow (o := .tup [.int t,.int u]) hr'
      rw [e1]
      exact k r t u H1 fr ⟨f1,fr.low,bt,bu⟩ s1
    refine ⟨_,(pss_one (ps_ret (pe_fx0 F_ratio (hr.mono (by decide)) (by rfl) (pa_cons (pe_op op_mulX (pe_ix ix_tup (pv 0) pe_int (fun _ _ => rfl)) (pe_ix ix_tup (pv 1) pe_int (fun _ _ => rfl))) (pa_cons (pe_op op_mulX (pe_ix ix_tup (pv 0) pe_int (fun _ _ => rfl)) (pe_ix ix_tup (pv 1) pe_int (fun _ _ => rfl))) pa_nil))))),?_⟩
    exact ⟨_,rfl,p,_,_,_,rfl,rfl,SqT.of ep,rfl,_,rfl,q,_,_,_,rfl,rfl,SqT.of eq,rfl,_,_,rfl,rfl,cm fp.ba fq.bb,_,rfl,p,_,_,_,rfl,rfl,SqT.of ep,rfl,_,rfl,q,_,_,_,rfl,rfl,SqT.of eq,rfl,_,_,rfl,rfl,cm fp.bb fq.ba,_,_,2 * n + 1,rfl,⟨bits_le (bits_mul fp.ba fq.bb) (by omega),bits_le (bits_mul fp.bb fq.ba) (by omega),by omega⟩,fun z => absurd z hden,fun _ r t u fr bt bu hr' => fin r t u fr bt bu hr'⟩
theorem S_less : FnScope ["a","b"] ["a","b"] (defScope (top 12)) := ⟨rfl,rfl,rfl,by decide +kernel,rfl,by decide +kernel,by decide +kernel⟩
theorem fn_less (D_less : Df K mg "less" (top 12)) : Fn P w K mg base "less" ["a","b"] 1 spLs := by
  refine D_less.fn S_less (fun _ _ _ _ _ _ us hl => by obtain ⟨_,_,rfl⟩ := len2 hl; rfl) (fun vs H Q E h => ?_) (fun f cdv A outer s H vs Q E hr h => ?_)
  · obtain ⟨p,q,a,b,c,d,rfl,_⟩ := h
    rfl
  · obtain ⟨p,q,a,b,c,d,rfl,hp,hq,⟨ba,bb,bc,bd⟩,k⟩ := h
    refine ⟨_,(pss_one (ps_ret (pe_cmpR op_lt (pe_op op_mulX (pe_ix ix_tup (pv 0) pe_int (fun _ _ => rfl)) (pe_ix ix_tup (pv 1) pe_int (fun _ _ => rfl))) (pe_op op_mulX (pe_ix ix_tup (pv 1) pe_int (fun _ _ => rfl)) (pe_ix ix_tup (pv 0) pe_int (fun _ _ => rfl))) (nomark _)))),?_⟩
    refine ⟨_,rfl,p,_,_,_,rfl,rfl,SqT.of hp,rfl,_,rfl,q,_,_,_,rfl,rfl,SqT.of hq,rfl,a,d,rfl,rfl,CM.b ba bd (by decide) (by decide),?_⟩
    refine ⟨_,rfl,q,_,_,_,rfl,rfl,SqT.of hq,rfl,_,rfl,p,_,_,_,rfl,rfl,SqT.of hp,rfl,c,b,rfl,rfl,CM.b bc bb (by decide) (by decide),?_⟩
    exact ⟨_,_,rfl,rfl,k⟩
theorem S_number_at : FnScope ["begin","end","place","rest"] ["begin","end","place"] (defScope (top 20)) := ⟨rfl,rfl,rfl,by decide +kernel,rfl,by decide +kernel,by decide +kernel⟩
theorem fn_number_at {C : Addr} (D_number_at : Df K mg "number_at" (top 20)) (F_ratio : Fx P w K mg base "ratio" ["top","bottom"] 2 [.int 1] (spRatioN C)) : Fn P w K mg base "number_at" ["begin","end","place"] 3 spNumAt := by
  refine D_number_at.fn S_number_at (fun _ _ _ _ _ _ us hl => by obtain ⟨_,_,_,rfl⟩ := len3 hl; rfl) (fun vs H Q E h => ?_) (fun f cdv A outer s H vs Q E hr h => ?_)
  · obtain ⟨x,y,p,t,b,rfl,_⟩ := h
    rfl
  · obtain ⟨x,y,p,t,b,rfl,fp,bx,by',k⟩ := h
    have hb := fp.low.pos
    have ep := fp.at_
    have br : bits (t % b) ≤ 200 := bits_range (Int.emod_nonneg _ (by omega)) (Int.le_of_lt (Int.emod_lt_of_pos _ (by omega))) fp.bb
    refine ⟨_,(pss_cons (ps_set (i := 3) S_number_at.nd rfl (Or.inl rfl) (pe_op op_mod (pe_ix ix_tup (pv 2) pe_int (fun _ _ => rfl)) (pe_ix ix_tup (pv 2) pe_int (fun _ _ => rfl)))) (pss_one (ps_ret (pe_fx0 F_ratio (hr.mono (by decide)) (by rfl) (pa_cons (pe_op op_add (pe_op op_mulX (pv 0) (pe_ix ix_tup (pv 2) pe_int (fun _ _ => rfl))) (pe_op op_mulX (pe_op op_sub (pv 1) (pv 0)) (pv 3))) (pa_cons (pe_ix ix_tup (pv 2) pe_int (fun _ _ => rfl)) pa_nil)))))),?_⟩
    refine ⟨_,rfl,p,_,_,_,rfl,rfl,SqT.of ep,rfl,_,rfl,p,_,_,_,rfl,rfl,SqT.of ep,rfl,_,_,rfl,rfl,(by show (0 : Int) < b; omega),?_⟩
    refine ⟨_,rfl,_,rfl,p,_,_,_,rfl,rfl,SqT.of ep,rfl,_,_,rfl,rfl,CM.b bx fp.bb (by decide) (by decide),_,rfl,_,rfl,_,_,rfl,rfl,_,rfl,_,_,rfl,rfl,CM.b (bits_sub by' bx) br (by decide) (by decide),_,_,rfl,rfl,?_⟩
    refine ⟨_,rfl,p,_,_,_,rfl,rfl,SqT.of ep,rfl,_,_,262,rfl,⟨bits_le (bits_add (n := 261) (bits_le (bits_mul bx fp.bb) (by decide)) (bits_mul (bits_sub by' bx) br)) (by decide),bits_le fp.bb (by decide),by decide⟩,fun z => absurd z (by omega),fun _ r u v fr bu bv hr' => ?_⟩
    obtain ⟨H1,e1,s1,f1⟩ := grow (o := .tup [.int u,.int v]) hr'
    rw [e1]
    exact k r u v H1 fr ⟨f1,fr.low,bu,bv⟩ s1
theorem S_point_at : FnScope ["line","place","corner","begin","end"] ["line","place"] (defScope (top 21)) := ⟨rfl,rfl,rfl,by decide +kernel,rfl,by decide +kernel,by decide +kernel⟩
theorem fn_point_at {C : Addr} (D_point_at : Df K mg "point_at" (top 21)) (F_look_at_place : Fx P w K mg base "look_at_place" ["line","thing"] 4 [] (spLook C)) (F_floor_of : Fn P w K mg base "floor_of" ["a"] 1 spFloor) (F_last_of : Fn P w K mg base "last_of" ["line"] 1 spLast) (F_number_at : Fn P w K mg base "number_at" ["begin","end","place"] 3 spNumAt) (T : Txt mg) :
    Fx P w K mg base "point_at" ["line","place"] 5 [] (spPoint C) := by
  refine D_point_at.fx S_point_at (fun _ _ _ _ _ _ us hl => by obtain ⟨_,_,rfl⟩ := len2 hl; rfl) (fun vs H Q E h => ?_) (fun f cdv A outer s H vs Q E hr h => ?_)
  · obtain ⟨l,qs,x,rfl,_⟩ := h
    rfl
  · obtain ⟨l,qs,x,rfl,L,h1,h20,th,k0,k1⟩ := h
    have hll : (qs.map fun (q : Addr × Int × Int) => V.ref q.1).length = qs.length := List.length_map _
    refine ⟨_,(pss_cons (ps_expr (pe_fx F_look_at_place (hr.mono (by decide)) (by rfl) (pa_cons (pv 0) (pa_cons (pv 1) pa_nil)))) (pss_cons (ps_set (i := 2) S_point_at.nd rfl (Or.inl rfl) (pe_fn F_floor_of (hr.mono (by decide)) (by rfl) (pa_cons (pv 1) pa_nil))) (pss_cons (ps_set (i := 3) S_point_at.nd rfl (Or.inl rfl) (pe_ix ix_list (pv 0) (pv 2) (fun _ _ => rfl))) (pss_cons (ps_set (i := 4) S_point_at.nd rfl (Or.inl rfl) (pe_ix ix_list (pv 0) (pe_callB (call_min2 rfl) (by rfl) T.z_min bt_min (pa_cons (pe_op op_add (pv 2) pe_int) (pa_cons (pe_fn F_last_of (hr.mono (by decide)) (by rfl) (pa_cons (pv 0) pa_nil)) pa_nil))) (fun _ _ => rfl))) (pss_one (ps_ret (pe_tup (pa_cons (pe_fn F_number_at (hr.mono (by decide)) (by rfl) (pa_cons (pe_ix ix_tup (pv 3) pe_int (fun _ _ => rfl)) (pa_cons (pe_ix ix_tup (pv 4) pe_int (fun _ _ => rfl)) (pa_cons (pv 1) pa_nil)))) (pa_cons (pe_fn F_number_at (hr.mono (by decide)) (by rfl) (pa_cons (pe_ix ix_tup (pv 3) pe_int (fun _ _ => rfl)) (pa_cons (pe_ix ix_tup (pv 4) pe_int (fun _ _ => rfl)) (pa_cons (pv 1) pa_nil)))) pa_nil))))))))),?_⟩
    refine ⟨_,rfl,_,rfl,l,_,x,rfl,L.lst,by rw [hll]; omega,th,fun z => k0 (by rw [hll] at z; exact z),fun hx => ?_⟩
    rw [hll] at hx
    obtain ⟨p,t,b,rfl,ep,lw,t0,t1⟩ := placeV_inv hx
    obtain ⟨bt,bb,k⟩ := k1 p t b rfl ep lw t0 t1
    have hb := lw.pos
    have fp : Fr2 H p t b 200 := ⟨ep,lw,bt,bb⟩
    have q0 : 0 ≤ t / b := fl_nn (by omega) t0
    have qn : t / b ≤ (qs.length : Int) - 1 := Int.ediv_le_of_le_mul (by omega) t1
    refine ⟨_,rfl,p,t,b,rfl,ep,⟨by omega,bits_le bb (by decide)⟩,?_⟩
    have atq : ∀ (j : Nat) (k : Int),k = (j : Int) → j < qs.length → atI (qs.map fun (q : Addr × Int × Int) => V.ref q.1) k = some (.ref (qs.getD j (0,0,0)).1) ∧ qs.getD j (0,0,0) ∈ qs := fun j k ek hj => by
      have e1 : qs.getD j (0,0,0) = qs[j] := by rw [List.getD_eq_getElem?_getD,List.getElem?_eq_getElem hj]; rfl
      rw [e1]
      subst ek
      exact ⟨atI_nat (by rw [List.getElem?_map,List.getElem?_eq_getElem hj]; rfl),List.getElem_mem hj⟩
    obtain ⟨a0,m0⟩ := atq (t / b).toNat (t / b) (by omega) (by omega)
    refine ⟨_,rfl,_,rfl,l,_,_,_,rfl,rfl,SqL.of L.lst,a0,?_⟩
    obtain ⟨a1,m1⟩ := atq (min ((t / b).toNat + 1) (qs.length - 1)) (if ((((qs.map fun (q : Addr × Int × Int) => V.ref q.1).length : Nat) : Int) - 1) < t / b + 1 then ((((qs.map fun (q : Addr × Int × Int) => V.ref q.1).length : Nat) : Int) - 1) else t / b + 1) (by rw [hll]; split <;> omega) (by omega)
    refine ⟨_,rfl,_,rfl,_,_,rfl,rfl,_,rfl,l,_,rfl,L.lst,_,_,rfl,l,_,_,_,rfl,rfl,SqL.of L.lst,a1,?_⟩
    have c0 := L.crn _ m0
    have c1 := L.crn _ m1
    refine ⟨_,rfl,_,_,_,_,rfl,rfl,SqT.of c0.1,rfl,_,rfl,_,_,_,_,rfl,rfl,SqT.of c1.1,rfl,_,rfl,_,_,p,t,b,rfl,fp,bits_le c0.2.1 (by decide),bits_le c1.2.1 (by decide),fun rx u v H1 fr1 g1 s1 => ?_⟩
    refine ⟨_,rfl,_,_,_,_,rfl,rfl,SqT.of (s1 _ _ c0.1),rfl,_,rfl,_,_,_,_,rfl,rfl,SqT.of (s1 _ _ c1.1),rfl,_,rfl,_,_,p,t,b,rfl,fp.mono s1,bits_le c0.2.2 (by decide),bits_le c1.2.2 (by decide),fun ry c d H2 fr2 g2 s2 => ?_⟩
    refine ⟨sz (by simp),fun r hr' => ?_⟩
    obtain ⟨H3,e3,s3,f3⟩ := grow (o := .tup [.ref rx,.ref ry]) hr'
    rw [e3]
    exact k r H3 ⟨⟨rx,ry,u,v,c,d,f3,(g1.mono s2).mono s3,g2.mono s3,fr1,fr2⟩⟩ (s1.trans (s2.trans s3))
theorem S_step_from : FnScope ["begin","end"] ["begin","end"] (defScope (top 22)) := ⟨rfl,rfl,rfl,by decide +kernel,rfl,by decide +kernel,by decide +kernel⟩
theorem fn_step_from (D_step_from : Df K mg "step_from" (top 22)) (F_minus : Fn P w K mg base "minus" ["a","b"] 3 (spBin (fun a b c d => a * d - c * b) (fun a b c d => b * d))) : Fn P w K mg base "step_from" ["begin","end"] 4 spStep := by
  refine D_step_from.fn S_step_from (fun _ _ _ _ _ _ us hl => by obtain ⟨_,_,rfl⟩ := len2 hl; rfl) (fun vs H Q E h => ?_) (fun f cdv A outer s H vs Q E hr h => ?_)
  · obtain ⟨p,q,u,v,c,d,u',v',c',d',rfl,_⟩ := h
    rfl
  · obtain ⟨p,q,u,v,c,d,u',v',c',d',rfl,fp,fq,k⟩ := h
    obtain ⟨px,py,ep,gx,gy⟩ := fp.ex
    obtain ⟨qx,qy,eq,hx,hy⟩ := fq.ex
    have nz : ∀ {x y : Int},1 ≤ x → 1 ≤ y → x * y ≠ 0 := fun hx hy => Int.mul_ne_zero (by omega) (by omega)
    refine ⟨_,(pss_one (ps_ret (pe_tup (pa_cons (pe_fn F_minus (hr.mono (by decide)) (by rfl) (pa_cons (pe_ix ix_tup (pv 1) pe_int (fun _ _ => rfl)) (pa_cons (pe_ix ix_tup (pv 0) pe_int (fun _ _ => rfl)) pa_nil))) (pa_cons (pe_fn F_minus (hr.mono (by decide)) (by rfl) (pa_cons (pe_ix ix_tup (pv 1) pe_int (fun _ _ => rfl)) (pa_cons (pe_ix ix_tup (pv 0) pe_int (fun _ _ => rfl)) pa_nil))) pa_nil))))),?_⟩
    refine ⟨_,rfl,q,_,_,_,rfl,rfl,SqT.of eq,rfl,_,rfl,p,_,_,_,rfl,rfl,SqT.of ep,rfl,qx,px,u',v',u,v,262,rfl,hx,gx,by decide,nz hx.low.pos gx.low.pos,fun r1 a b H1 fr1 g1 s1 => ?_⟩
    refine ⟨_,rfl,q,_,_,_,rfl,rfl,SqT.of (s1 _ _ eq),rfl,_,rfl,p,_,_,_,rfl,rfl,SqT.of (s1 _ _ ep),rfl,qy,py,c',d',c,d,262,rfl,hy.mono s1,gy.mono s1,by decide,nz hy.low.pos gy.low.pos,fun r2 e f H2 fr2 g2 s2 => ?_⟩
    refine ⟨sz (by simp),fun r hr' => ?_⟩
    obtain ⟨H3,e3,s3,f3⟩ := grow (o := .tup [.ref r1,.ref r2]) hr'
    rw [e3]
    exact k r a b e f H3 fr1 fr2 ⟨⟨r1,r2,f3,(g1.mono s2).mono s3,g2.mono s3⟩⟩ (s1.trans (s2.trans s3))
theorem S_inner_product : FnScope ["one","other"] ["one","other"] (defScope (top 23)) := ⟨rfl,rfl,rfl,by decide +kernel,rfl,by decide +kernel,by decide +kernel⟩
theorem fn_inner_product (D_inner_product : Df K mg "inner_product" (top 23)) (F_plus : Fn P w K mg base "plus" ["a","b"] 3 (spBin (fun a b c d => a * d + c * b) (fun a b c d => b * d))) (F_times : Fn P w K mg base "times" ["a","b"] 3 (spBin (fun a b c d => a * c) (fun a b c d => b * d))) : Fn P w K mg base "inner_product" ["one","other"] 4 spInner := by
  refine D_inner_product.fn S_inner_product (fun _ _ _ _ _ _ us hl => by obtain ⟨_,_,rfl⟩ := len2 hl; rfl) (fun vs H Q E h => ?_) (fun f cdv A outer s H vs Q E hr h => ?_)
  · obtain ⟨p,q,a,b,e,f,a',b',e',f',rfl,_⟩ := h
    rfl
  · obtain ⟨p,q,a,b,e,f,a',b',e',f',rfl,fp,fq,k⟩ := h
    obtain ⟨qx,qy,eq,hx,hy⟩ := fq.ex
    obtain ⟨px,py,ep,gx,gy⟩ := fp.ex
    have nz : ∀ {x y : Int},1 ≤ x → 1 ≤ y → x * y ≠ 0 := fun hx hy => Int.mul_ne_zero (by omega) (by omega)
    refine ⟨_,(pss_one (ps_ret (pe_fn F_plus (hr.mono (by decide)) (by rfl) (pa_cons (pe_fn F_times (hr.mono (by decide)) (by rfl) (pa_cons (pe_ix ix_tup (pv 0) pe_int (fun _ _ => rfl)) (pa_cons (pe_ix ix_tup (pv 1) pe_int (fun _ _ => rfl)) pa_nil))) (pa_cons (pe_fn F_times (hr.mono (by decide)) (by rfl) (pa_cons (pe_ix ix_tup (pv 0) pe_int (fun _ _ => rfl)) (pa_cons (pe_ix ix_tup (pv 1) pe_int (fun _ _ => rfl)) pa_nil))) pa_nil))))),?_⟩
    refine ⟨_,rfl,p,_,_,_,rfl,rfl,SqT.of ep,rfl,_,rfl,q,_,_,_,rfl,rfl,SqT.of eq,rfl,px,qx,a,b,a',b',525,rfl,gx,hx,by decide,nz gx.low.pos hx.low.pos,fun r1 m n H1 fr1 g1 s1 => ?_⟩
    refine ⟨_,rfl,p,_,_,_,rfl,rfl,SqT.of (s1 _ _ ep),rfl,_,rfl,q,_,_,_,rfl,rfl,SqT.of (s1 _ _ eq),rfl,py,qy,e,f,e',f',525,rfl,gy.mono s1,hy.mono s1,by decide,nz gy.low.pos hy.low.pos,fun r2 m' n' H2 fr2 g2 s2 => ?_⟩
    exact ⟨r1,r2,m,n,m',n',1051,rfl,g1.mono s2,g2,by decide,nz g1.low.pos g2.low.pos,fun r s' w' H3 fr3 g3 s3 => k r m n m' n' s' w' H3 fr1 fr2 fr3 g3 (s1.trans (s2.trans s3))⟩
theorem S_square_between : FnScope ["begin","end","step"] ["begin","end"] (defScope (top 24)) := ⟨rfl,rfl,rfl,by decide +kernel,rfl,by decide +kernel,by decide +kernel⟩
theorem fn_square_between (D_square_between : Df K mg "square_between" (top 24)) (F_step_from : Fn P w K mg base "step_from" ["begin","end"] 4 spStep) (F_inner_product : Fn P w K mg base "inner_product" ["one","other"] 4 spInner) : Fn P w K mg base "square_between" ["begin","end"] 5 spSqB := by
  refine D_square_between.fn S_square_between (fun _ _ _ _ _ _ us hl => by obtain ⟨_,_,rfl⟩ := len2 hl; rfl) (fun vs H Q E h => ?_) (fun f cdv A outer s H vs Q E hr h => ?_)
  · obtain ⟨p,q,X,Y,b,X',Y',b',rfl,_⟩ := h
    rfl
  · obtain ⟨p,q,X,Y,b,X',Y',b',rfl,fp,fq,hb,hb',k⟩ := h
    obtain ⟨px,py,u,v,c,d,ep,gx,gy,f1,f2⟩ := fp.ex
    obtain ⟨qx,qy,u',v',c',d',eq,hx,hy,f3,f4⟩ := fq.ex
    refine ⟨_,(pss_cons (ps_set (i := 2) S_square_between.nd rfl (Or.inl rfl) (pe_fn F_step_from (hr.mono (by decide)) (by rfl) (pa_cons (pv 0) (pa_cons (pv 1) pa_nil)))) (pss_one (ps_ret (pe_fn F_inner_product (hr.mono (by decide)) (by rfl) (pa_cons (pv 2) (pa_cons (pv 2) pa_nil)))))),?_⟩
    refine ⟨_,rfl,_,rfl,p,q,u,v,c,d,u',v',c',d',rfl,⟨⟨px,py,ep,gx,gy⟩⟩,⟨⟨qx,qy,eq,hx,hy⟩⟩,fun r a e a' e' H1 g1 g2 pf s1 => ?_⟩
    exact ⟨_,rfl,_,rfl,r,r,a,e,a',e',a,e,a',e',rfl,pf,pf,fun r2 m n m' n' s' w' H2 k1 k2 k3 g3 s2 => k r2 s' w' H2 (sq_frac f1 f2 f3 f4 g1 g2 k1 k2 k3) g3 (s1.trans s2)⟩
theorem S_square_of : FnScope ["one","x","other","y"] ["one","x","other","y"] (defScope (top 25)) := ⟨rfl,rfl,rfl,by decide +kernel,rfl,by decide +kernel,by decide +kernel⟩
theorem fn_square_of {C : Addr} (D_square_of : Df K mg "square_of" (top 25)) (F_square_between : Fn P w K mg base "square_between" ["begin","end"] 5 spSqB) (F_point_at : Fx P w K mg base "point_at" ["line","place"] 5 [] (spPoint C)) : Fx P w K mg base "square_of" ["one","x","other","y"] 6 [] (spSquare C) := by
  refine D_square_of.fx S_square_of (fun _ _ _ _ _ _ us hl => by obtain ⟨_,_,_,_,rfl⟩ := len4 hl; rfl) (fun vs H Q E h => ?_) (fun f cdv A outer s H vs Q E hr h => ?_)
  · obtain ⟨l,l',qs,qs',x,y,rfl,_⟩ := h
    rfl
  · obtain ⟨l,l',qs,qs',x,y,rfl,L,L',h1,h1',tx,ty,h⟩ := h
    refine ⟨_,(pss_one (ps_ret (pe_fn F_square_between (hr.mono (by decide)) (by rfl) (pa_cons (pe_fx F_point_at (hr.mono (by decide)) (by rfl) (pa_cons (pv 0) (pa_cons (pv 1) pa_nil))) (pa_cons (pe_fx F_point_at (hr.mono (by decide)) (by rfl) (pa_cons (pv 2) (pa_cons (pv 3) pa_nil))) pa_nil))))),?_⟩
    refine ⟨_,rfl,_,rfl,l,qs,x,rfl,L,h1.1,h1.2,tx,fun z => ?_,fun p t b ep eH lw t0 t1 => ?_⟩
    · rcases h with h | ⟨p,t,b,rfl,pl,_⟩
      · exact h.2
      · rw [show placeV ((qs.length : Int) - 1) H (.ref p) = true from pl.place] at z
        cases z
    rcases h with h | ⟨p',t',b',rfl,pl,h⟩
    · subst ep
      have z := h.1
      rw [show placeV (lst_ qs) H (.ref p) = true from placeV_of eH lw t0 t1] at z
      cases z
    cases ep
    have e2 := pl.at_
    rw [eH] at e2
    cases e2
    refine ⟨pl.bt,pl.bb,fun r H1 pt s1 => ?_⟩
    refine ⟨_,rfl,_,rfl,l',qs',y,rfl,L'.mono s1,h1'.1,h1'.2,Thing.mono ty s1,fun z => ?_,fun q u c eq' eH' lw' u0 u1 => ?_⟩
    · rcases h with h | ⟨q,u,c,rfl,pl',_⟩
      · exact h.2 H1 s1
      · rw [show placeV ((qs'.length : Int) - 1) H1 (.ref q) = true from (pl'.mono s1).place] at z
        cases z
    rcases h with h | ⟨q',u',c',rfl,pl',k⟩
    · subst eq'
      have z := h.1
      obtain ⟨kd,kn⟩ := ty.kn
      rw [← placeV_same kn s1,show placeV (lst_ qs') H1 (.ref q) = true from placeV_of eH' lw' u0 u1] at z
      cases z
    cases eq'
    have e3 := (pl'.mono s1).at_
    rw [eH'] at e3
    cases e3
    refine ⟨pl'.bt,pl'.bb,fun r' H2 pt' s2 => ?_⟩
    have hb := lw.pos
    have hc := lw'.pos
    exact ⟨r,r',_,_,_,_,_,_,rfl,pt.mono s2,pt',by omega,by omega,fun r2 s' w' H3 fr f3 s3 => k r2 s' w' H3 fr f3 (s1.trans (s2.trans s3))⟩
theorem S_nearest_part : FnScope ["point","begin","end","step","part"] ["point","begin","end"] (defScope (top 26)) := ⟨rfl,rfl,rfl,by decide +kernel,rfl,by decide +kernel,by decide +kernel⟩
theorem fn_nearest_part (D_nearest_part : Df K mg "nearest_part" (top 26)) (F_step_from : Fn P w K mg base "step_from" ["begin","end"] 4 spStep) (F_inner_product : Fn P w K mg base "inner_product" ["one","other"] 4 spInner) (F_over : Fn P w K mg base "over" ["a","b"] 3 (spBin (fun a b c d => a * d) (fun a b c d => b * c))) (F_less : Fn P w K mg base "less" ["a","b"] 1 spLs) : Fn P w K mg base "nearest_part" ["point","begin","end"] 5 spNear := by
  refine D_nearest_part.fn S_nearest_part (fun _ _ _ _ _ _ us hl => by obtain ⟨_,_,_,rfl⟩ := len3 hl; rfl) (fun vs H Q E h => ?_) (fun f cdv A outer s H vs Q E hr h => ?_)
  · obtain ⟨p,p1,p2,X,Y,b,X1,Y1,b1,X2,Y2,b2,rfl,_⟩ := h
    rfl
  · obtain ⟨p,p1,p2,X,Y,b,X1,Y1,b1,X2,Y2,b2,rfl,pt,pt1,pt2,hb,hb1,hb2,k⟩ := h
    refine ⟨_,(pss_cons (ps_if (pt_cmpR (op_eqD hr.units10) (pv 1) (pv 2) (nomark _)) (pss_one (ps_ret (pe_tupA (pa_cons pe_int (pa_cons pe_int pa_nil))))) pss_nil) (pss_cons (ps_set (i := 3) S_nearest_part.nd rfl (Or.inl rfl) (pe_fn F_step_from (hr.mono (by decide)) (by rfl) (pa_cons (pv 1) (pa_cons (pv 2) pa_nil)))) (pss_cons (ps_set (i := 4) S_nearest_part.nd rfl (Or.inl rfl) (pe_fn F_over (hr.mono (by decide)) (by rfl) (pa_cons (pe_fn F_inner_product (hr.mono (by decide)) (by rfl) (pa_cons (pe_fn F_step_from (hr.mono (by decide)) (by rfl) (pa_cons (pv 1) (pa_cons (pv 0) pa_nil))) (pa_cons (pv 3) pa_nil))) (pa_cons (pe_fn F_inner_product (hr.mono (by decide)) (by rfl) (pa_cons (pv 3) (pa_cons (pv 3) pa_nil))) pa_nil)))) (pss_cons (ps_if (pt_val (pe_fn F_less (hr.mono (by decide)) (by rfl) (pa_cons (pv 4) (pa_cons (pe_tupA (pa_cons pe_int (pa_cons pe_int pa_nil))) pa_nil)))) (pss_one (ps_ret (pe_tupA (pa_cons pe_int (pa_cons pe_int pa_nil))))) pss_nil) (pss_cons (ps_if (pt_val (pe_fn F_less (hr.mono (by decide)) (by rfl) (pa_cons (pe_tupA (pa_cons pe_int (pa_cons pe_int pa_nil))) (pa_cons (pv 4) pa_nil)))) (pss_one (ps_ret (pe_tupA (pa_cons pe_int (pa_cons pe_int pa_nil))))) pss_nil) (pss_one (ps_ret (pv 4)))))))),?_⟩
    obtain ⟨px,py,u,v,c,d,ep,gx,gy,f1,f2⟩ := pt.ex
    obtain ⟨qx,qy,u1,v1,c1,d1,eq,hx,hy,f3,f4⟩ := pt1.ex
    obtain ⟨rx,ry,u2,v2,c2,d2,er,kx,ky,f5,f6⟩ := pt2.ex
    have F0 : PtF H p u v c d 262 := ⟨⟨px,py,ep,gx,gy⟩⟩
    have F1 : PtF H p1 u1 v1 c1 d1 262 := ⟨⟨qx,qy,eq,hx,hy⟩⟩
    have F2 : PtF H p2 u2 v2 c2 d2 262 := ⟨⟨rx,ry,er,kx,ky⟩⟩
    have b01 : bits 0 ≤ 4207 ∧ bits 1 ≤ 4207 := ⟨by decide,by decide⟩
    have Z : ∀ {H' : Hp} {r : Addr},H' r = some (.tup [.int 0,.int 1]) → Fr2 H' r 0 1 4207 := fun e => ⟨e,⟨by decide,by decide⟩,b01.1,b01.2⟩
    have O : ∀ {H' : Hp} {r : Addr},H' r = some (.tup [.int 1,.int 1]) → Fr2 H' r 1 1 4207 := fun e => ⟨e,⟨by decide,by decide⟩,b01.2,b01.2⟩
    refine ⟨_,rfl,_,rfl,_,_,pt_rp F1,pt_rp F2,_,rfl,ite3 (fun h1 => ?_) (fun h1 => ?_)⟩
    · have h1 : (u1 = u2 ∧ v1 = v2) ∧ (c1 = c2 ∧ d1 = d2) := by simpa [deq,deqs] using h1
      exact ⟨sz (by simp),fun r H1 s1 f1' _ => k r 0 1 H1 (Z f1') (.inl ⟨⟨(fr_same (by omega) (by omega) f3 f5).mpr h1.1,(fr_same (by omega) (by omega) f4 f6).mpr h1.2⟩,rfl,rfl⟩) s1⟩
    have h1 : ¬ ((u1 = u2 ∧ v1 = v2) ∧ (c1 = c2 ∧ d1 = d2)) := by simpa [deq,deqs] using h1
    have hS : 0 < (X2 * b1 - X1 * b2) * (X2 * b1 - X1 * b2) + (Y2 * b1 - Y1 * b2) * (Y2 * b1 - Y1 * b2) := by
      have q : ∀ x : Int,0 ≤ x * x := fun x => le_prod (by omega)
      have q1 := q (X2 * b1 - X1 * b2)
      have q2 := q (Y2 * b1 - Y1 * b2)
      by_cases z : (X2 * b1 - X1 * b2) * (X2 * b1 - X1 * b2) + (Y2 * b1 - Y1 * b2) * (Y2 * b1 - Y1 * b2) = 0
      · obtain ⟨z1,z2⟩ := sq_zero z
        exact absurd ⟨(fr_same (by omega) (by omega) f3 f5).mp (by omega),(fr_same (by omega) (by omega) f4 f6).mp (by omega)⟩ h1
      · omega
    have hN : 0 < nN b X1 Y1 b1 X2 Y2 b2 := Int.mul_pos hb hS
    refine ⟨_,rfl,_,rfl,p1,p2,u1,v1,c1,d1,u2,v2,c2,d2,rfl,F1,F2,fun st a e a' e' H1 g1 g2 pf s1 => ?_⟩
    refine ⟨_,rfl,_,rfl,p1,p,u1,v1,c1,d1,u,v,c,d,rfl,F1.mono s1,F0.mono s1,fun st2 a2 e2 a2' e2' H2 g3 g4 pf2 s2 => ?_⟩
    refine ⟨_,rfl,st2,st,a2,e2,a2',e2',a,e,a',e',rfl,pf2,pf.mono s2,fun r1 m n m' n' i j H3 k1 k2 k3 g5 s3 => ?_⟩
    refine ⟨_,rfl,_,rfl,st,st,a,e,a',e',a,e,a',e',rfl,(pf.mono s2).mono s3,(pf.mono s2).mono s3,fun r2 m2 n2 m2' n2' i2 j2 H4 l1 l2 l3 g6 s4 => ?_⟩
    have hi := near_pos hb1 hb2 f3 f4 f5 f6 g1 g2 l1 l2 l3 hS
    have hj := k3.low.pos
    refine ⟨r1,r2,i,j,i2,j2,2103,rfl,g5.mono s4,g6,by decide,Int.mul_ne_zero (by omega) (by omega),fun rp t w' H5 fin g7 s5 => ?_⟩
    have eN := near_eq (by omega) (by omega) (by omega) f1 f2 f3 f4 f5 f6 g1 g2 g3 g4 k1 k2 k3 l1 l2 l3 (by omega) fin (by omega)
    have hw := fin.low.pos
    obtain ⟨c1',c2'⟩ := np_lt (by omega) hN eN
    have S5 := s1.trans (s2.trans (s3.trans (s4.trans s5)))
    have bt := g7.ba
    have bw := g7.bb
    refine ⟨_,rfl,sz (by simp),fun zp H6 s6 f6' _ => ?_⟩
    refine ⟨rp,zp,t,w',0,1,rfl,(g7.mono s6).at_,f6',⟨bits_le bt (by decide),bits_le bw (by decide),by decide,by decide⟩,_,rfl,ite3 (fun h2 => ?_) (fun h2 => ?_)⟩
    · have h2 : t * 1 < 0 * w' := dec_t h2
      exact ⟨sz (by simp),fun r H7 s7 f7 _ => k r 0 1 H7 (Z f7) (.inr ⟨hN,.inl ⟨c1'.mp (by omega),rfl,rfl⟩⟩) (S5.trans (s6.trans s7))⟩
    have h2 : ¬ t * 1 < 0 * w' := dec_f h2
    refine ⟨sz (by simp),fun op H7 s7 f7 _ => ?_⟩
    have G7 := (g7.mono s6).mono s7
    refine ⟨_,rfl,op,rp,1,1,t,w',rfl,f7,G7.at_,⟨by decide,by decide,bits_le bt (by decide),bits_le bw (by decide)⟩,_,rfl,ite3 (fun h3 => ?_) (fun h3 => ?_)⟩
    · have h3 : 1 * w' < t * 1 := dec_t h3
      exact ⟨sz (by simp),fun r H8 s8 f8 _ => k r 1 1 H8 (O f8) (.inr ⟨hN,.inr (.inl ⟨c2'.mp (by omega),rfl,rfl⟩)⟩) (S5.trans (s6.trans (s7.trans s8)))⟩
    have h3 : ¬ 1 * w' < t * 1 := dec_f h3
    exact ⟨_,rfl,k rp t w' H7 G7 (.inr ⟨hN,.inr (.inr ⟨by omega,by omega,by omega,eN⟩)⟩) (S5.trans (s6.trans s7))⟩
theorem S_least_along : FnScope ["one","x","other","low","high","point","part","place"] ["one","x","other","low","high"] (defScope (top 27)) := ⟨rfl,rfl,rfl,by decide +kernel,rfl,by decide +kernel,by decide +kernel⟩
theorem fn_least_along {C : Addr} (D_least_along : Df K mg "least_along" (top 27)) (F_point_at : Fx P w K mg base "point_at" ["line","place"] 5 [] (spPoint C)) (F_nearest_part : Fn P w K mg base "nearest_part" ["point","begin","end"] 5 spNear) (F_plus : Fn P w K mg base "plus" ["a","b"] 3 (spBin (fun a b c d => a * d + c * b) (fun a b c d => b * d))) (F_times : Fn P w K mg base "times" ["a","b"] 3 (spBin (fun a b c d => a * c) (fun a b c d => b * d))) (F_minus : Fn P w K mg base "minus" ["a","b"] 3 (spBin (fun a b c d => a * d - c * b) (fun a b c d => b * d))) (F_square_between : Fn P w K mg base "square_between" ["begin","end"] 5 spSqB) : Fx P w K mg base "least_along" ["one","x","other","low","high"] 6 [] (spLeast C) := by
  refine D_least_along.fx S_least_along (fun _ _ _ _ _ _ us hl => by obtain ⟨_,_,_,_,_,rfl⟩ := len5 hl; rfl) (fun vs H Q E h => ?_) (fun f cdv A outer s H vs Q E hr h => ?_)
  · obtain ⟨l,l',qs,qs',x,y,z,rfl,_⟩ := h
    rfl
  · obtain ⟨l,l',qs,qs',x,y,z,rfl,L,L',h1,h1',tx,ty,tz,h⟩ := h
    refine ⟨_,(pss_cons (ps_set (i := 5) S_least_along.nd rfl (Or.inl rfl) (pe_fx F_point_at (hr.mono (by decide)) (by rfl) (pa_cons (pv 0) (pa_cons (pv 1) pa_nil)))) (pss_cons (ps_set (i := 6) S_least_along.nd rfl (Or.inl rfl) (pe_fn F_nearest_part (hr.mono (by decide)) (by rfl) (pa_cons (pv 5) (pa_cons (pe_fx F_point_at (hr.mono (by decide)) (by rfl) (pa_cons (pv 2) (pa_cons (pv 3) pa_nil))) (pa_cons (pe_fx F_point_at (hr.mono (by decide)) (by rfl) (pa_cons (pv 2) (pa_cons (pv 4) pa_nil))) pa_nil))))) (pss_cons (ps_set (i := 7) S_least_along.nd rfl (Or.inl rfl) (pe_fn F_plus (hr.mono (by decide)) (by rfl) (pa_cons (pv 3) (pa_cons (pe_fn F_times (hr.mono (by decide)) (by rfl) (pa_cons (pv 6) (pa_cons (pe_fn F_minus (hr.mono (by decide)) (by rfl) (pa_cons (pv 4) (pa_cons (pv 3) pa_nil))) pa_nil))) pa_nil)))) (pss_one (ps_ret (pe_tupA (pa_cons (pe_fn F_square_between (hr.mono (by decide)) (by rfl) (pa_cons (pv 5) (pa_cons (pe_fx F_point_at (hr.mono (by decide)) (by rfl) (pa_cons (pv 2) (pa_cons (pv 7) pa_nil))) pa_nil))) (pa_cons (pv 7) pa_nil)))))))),?_⟩
    rcases h with h | ⟨p,t,b,rfl,pl,h⟩
    · exact ⟨_,rfl,_,rfl,_,_,_,rfl,L,h1.1,h1.2,tx,fun _ => h.2,fun _ _ _ e0 eH lw t0 t1 => pt_n h.1 e0 eH lw t0 t1⟩
    refine ⟨_,rfl,_,rfl,_,_,_,rfl,L,h1.1,h1.2,Plc.th pl,pt_f pl,pt_t pl fun r H1 pt s1 => ?_⟩
    obtain ⟨ky,ny⟩ := ty.kn
    obtain ⟨kz,nz⟩ := tz.kn
    rcases h with h | ⟨q,l1,l2,rfl,pq,h⟩
    · exact ⟨_,rfl,_,rfl,_,rfl,_,_,_,rfl,(L'.mono s1),h1'.1,h1'.2,(Thing.mono ty s1),fun _ => (h.2 H1 s1),fun _ _ _ e0 eH lw t0 t1 => pt_n (by rw [placeV_same ny s1]; exact h.1) e0 eH lw t0 t1⟩
    refine ⟨_,rfl,_,rfl,_,rfl,_,_,_,rfl,(L'.mono s1),h1'.1,h1'.2,Plc.th (pq.mono s1),pt_f (pq.mono s1),pt_t (pq.mono s1) fun r1 H2 pt1 s2 => ?_⟩
    have S2 := s1.trans s2
    rcases h with h | ⟨q',hi1,hi2,rfl,pq',bb,b2,b4,ins,k⟩
    · exact ⟨_,rfl,_,rfl,_,_,_,rfl,(L'.mono S2),h1'.1,h1'.2,(Thing.mono tz S2),fun _ => (h.2 H2 S2),fun _ _ _ e0 eH lw t0 t1 => pt_n (by rw [placeV_same nz S2]; exact h.1) e0 eH lw t0 t1⟩
    have hb : (0 : Int) < b := pl.low.pos
    have hl : (0 : Int) < l2 := pq.low.pos
    have hh : (0 : Int) < hi2 := pq'.low.pos
    refine ⟨_,rfl,_,rfl,_,_,_,rfl,(L'.mono S2),h1'.1,h1'.2,Plc.th (pq'.mono S2),pt_f (pq'.mono S2),pt_t (pq'.mono S2) fun r2 H3 pt2 s3 => ?_⟩
    refine ⟨r,r1,r2,_,_,_,_,_,_,_,_,_,rfl,(pt.mono s2).mono s3,pt1.mono s3,pt2,hb,hl,hh,fun rp ps pw H4 gp np s4 => ?_⟩
    have S4 := S2.trans (s3.trans s4)
    have G1 : Fr2 H4 q l1 l2 200 := ⟨(pq.mono S4).at_,pq.low,pq.bt,pq.bb⟩
    have G2 : Fr2 H4 q' hi1 hi2 200 := ⟨(pq'.mono S4).at_,pq'.low,pq'.bt,pq'.bb⟩
    have hpb : bits ps ≤ 900 ∧ bits pw ≤ 900 := by
      have z1 : bits 0 ≤ 900 ∧ bits 1 ≤ 900 := ⟨by decide,by decide⟩
      rcases np with ⟨_,rfl,rfl⟩ | ⟨hN,⟨_,rfl,rfl⟩ | ⟨_,rfl,rfl⟩ | ⟨_,_,_,e⟩⟩
      · exact z1
      · exact z1
      · exact ⟨z1.2,z1.2⟩
      · rcases ins with ⟨rfl,rfl⟩ | ⟨kk,st⟩
        · unfold nN at hN
          simp at hN
        · exact part_bits (L'.mono S4) hb hl hh bb b2 b4 st (pt_bits L hb pl.bb) gp.low hN e
    have gpb : Fr2 H4 rp ps pw 900 := ⟨gp.at_,gp.low,hpb.1,hpb.2⟩
    refine ⟨_,rfl,_,rfl,_,rfl,_,rfl,q',q,hi1,hi2,l1,l2,200,rfl,G2,G1,by decide,Int.mul_ne_zero (by omega) (by omega),fun rm a e H5 fm gm s5 => ?_⟩
    refine ⟨rp,rm,ps,pw,a,e,900,rfl,gpb.mono s5,gm.wide (by decide),by decide,Int.mul_ne_zero (nzl gp.low) (nzl gm.low),fun rt m n H6 ft gt s6 => ?_⟩
    refine ⟨q,rt,l1,l2,m,n,1801,rfl,((G1.mono s5).mono s6).wide (by decide),gt,by decide,Int.mul_ne_zero (by omega) (nzl gt.low),fun rpl T B H7 fT gT s7 => ?_⟩
    obtain ⟨lp,r0,r1'⟩ := least_ok hb pq.low pq'.low ins np fm ft fT
    have S7 := S4.trans (s5.trans (s6.trans s7))
    have hB : (0 : Int) < B := fT.low.pos
    have t0 : 0 ≤ T := by
      have z := Int.mul_nonneg pq.lo (show 0 ≤ B by omega)
      by_cases c : 0 ≤ T
      · exact c
      · have := Int.mul_neg_of_neg_of_pos (show T < 0 by omega) hl
        omega
    have t1 : T ≤ lst_ qs' * B := by
      have z := Int.mul_le_mul_of_nonneg_right pq'.hi (show 0 ≤ B by omega)
      have : T * hi2 ≤ lst_ qs' * B * hi2 := by rw [Int.mul_right_comm]; omega
      exact Int.le_of_mul_le_mul_right this hh
    obtain ⟨bT,bB⟩ := lp_bits L' h1'.2 hb bb fT.low lp b2 b4 t0 t1
    have PL : Plc H7 rpl T B (lst_ qs') := ⟨gT.at_,fT.low,t0,t1,bT,bits_le bB (by decide)⟩
    refine ⟨_,rfl,_,rfl,_,rfl,_,_,_,rfl,(L'.mono S7),h1'.1,h1'.2,Plc.th PL,pt_f PL,pt_t PL fun r3 H8 pt3 s8 => ?_⟩
    refine ⟨r,r3,_,_,_,_,_,_,rfl,(pt.mono (s2.trans (s3.trans (s4.trans (s5.trans (s6.trans s7)))))).mono s8,pt3,hb,hB,fun rs sn sw H9 fs gs s9 => ?_⟩
    refine ⟨_,rfl,sz (by simp),fun rr H10 s10 f10 _ => ?_⟩
    exact k rr rs rpl sn sw T B H10 f10 (gs.mono s10) (PL.mono (s8.trans (s9.trans s10))) lp r0 r1' fs (S7.trans (s8.trans (s9.trans s10)))
structure FnH (P : Program) (w : World) (K : PySem.W.Frag) (mg : Str → Option Value) (base : Heap) (k : Nat) (I : Hp → Prop) (f : Addr) (n : Nat) (hd : Nat → Bool) : Prop where
  o : ∀ H,I H → FObj H f
  c : ∃ sp,IsFn P w K mg base k f sp ∧ ∀ H' (i : Nat) (Q : VK),I H' → i < n → (∀ H'',I H'' → Q (.bl (hd i)) H'') → sp [.int (i : Int)] H' Q E0
def spFirst (P : Program) (w : World) (K : PySem.W.Frag) (mg : Str → Option Value) (base : Heap) (k : Nat) : Sp := fun vs H Q _ => ∃ (f : Addr) (n : Nat) (hd : Nat → Bool) (I : Hp → Prop),vs = [.int (n : Int),.ref f] ∧ I H ∧ FnH P w K mg base k I f n hd ∧ (∀ i j,i ≤ j → j < n → hd i = true → hd j = true) ∧
  ∀ (m : Nat) H',I H' → m ≤ n → (∀ i,i < m → hd i = false) → (∀ i,m ≤ i → i < n → hd i = true) → Q (.int (m : Int)) H'
theorem S_first_number : FnScope ["count","holds","low","high","number"] ["count","holds"] (defScope (top 29)) := ⟨rfl,rfl,rfl,by decide +kernel,rfl,by decide +kernel,by decide +kernel⟩
theorem fn_first_number (D_first_number : Df K mg "first_number" (top 29)) (T : Txt mg) : Fn P w K mg base "first_number" ["count","holds"] 5 (spFirst P w K mg base 3) := by
  refine D_first_number.fn S_first_number (fun _ _ _ _ _ _ us hl => by obtain ⟨_,_,rfl⟩ := len2 hl; rfl) (fun vs H Q E h => ?_) (fun f cdv A outer s H vs Q E hr h => ?_)
  · obtain ⟨f,n,hd,I,rfl,_⟩ := h
    rfl
  · obtain ⟨f,n,hd,I,rfl,hI,F,mono,q⟩ := h
    refine ⟨_,(pss_cons (ps_set (i := 2) S_first_number.nd rfl (Or.inl rfl) pe_int) (pss_cons (ps_set (i := 3) S_first_number.nd rfl (Or.inl rfl) (pv 0)) (pss_cons (ps_while PassesOwn.never (pt_cmpR op_lt (pv 2) (pv 3) (nomark _)) (pss_cons (ps_set (i := 4) S_first_number.nd rfl (Or.inl rfl) (pe_op op_fdivP (pe_op op_add (pv 2) (pv 3)) pe_int)) (pss_one (ps_if (pt_val (pe_callV (k := 3) (i := 1) (hr.mono (by decide)) rfl (Or.inl rfl) (pa_cons (pv 4) pa_nil))) (pss_one (ps_set (i := 3) S_first_number.nd rfl (Or.inl rfl) (pv 4))) (pss_one (ps_set (i := 2) S_first_number.nd rfl (Or.inl rfl) (pe_op op_add (pv 4) pe_int))))))) (pss_one (ps_ret (pv 2)))))),?_⟩
    obtain ⟨sp,i1,c1⟩ := F.c
    refine ⟨_,rfl,?_⟩
    refine while_by (fun σ H' => ∃ (lo hi : Nat) (z : Option V),σ = [some (.int (n : Int)),some (.ref f),some (.int (lo : Int)),some (.int (hi : Int)),z] ∧ I H' ∧ lo ≤ hi ∧ hi ≤ n ∧ (∀ i,i < lo → hd i = false) ∧ ∀ i,hi ≤ i → i < n → hd i = true)
      (fun σ _ => match σ with | [_,_,some (.int lo),some (.int hi),_] => (hi - lo).toNat | _ => 0) ⟨0,n,_,rfl,hI,Nat.zero_le _,Nat.le_refl _,fun i h => absurd h (Nat.not_lt_zero _),fun i h1 h2 => absurd h2 (by omega)⟩ ?_ ?_
    · rintro σ H1 ⟨lo,hi,z,rfl,I1,h1,h2,h3,h4⟩
      refine ⟨_,rfl,_,rfl,_,_,rfl,rfl,_,rfl,ite3 (fun c => ?_) (fun c => ?_)⟩
      · have c : (lo : Int) < (hi : Int) := dec_t c
        refine ⟨_,rfl,_,rfl,_,_,rfl,rfl,_,_,rfl,rfl,⟨by decide,by decide⟩,?_⟩
        have em : ((lo : Int) + (hi : Int)) / 2 = (((lo + hi) / 2 : Nat) : Int) := by omega
        dsimp only
        rw [em]
        refine ⟨f,sp,rfl,i1,F.o _ I1,_,rfl,F.o _ I1,c1 H1 _ _ I1 (by omega) fun H2 I2 => ⟨_,rfl,ite3 (fun g => ?_) (fun g => ?_)⟩⟩
        · refine ⟨_,rfl,⟨lo,(lo + hi) / 2,_,rfl,I2,by omega,by omega,h3,fun i e1 e2 => mono _ i e1 e2 g⟩,?_⟩
          show ((((lo + hi) / 2 : Nat) : Int) - (lo : Int)).toNat < ((hi : Int) - (lo : Int)).toNat
          omega
        · refine ⟨_,rfl,_,_,rfl,rfl,⟨(lo + hi) / 2 + 1,hi,_,rfl,I2,by omega,h2,fun i e1 => ?_,h4⟩,?_⟩
          · cases e2 : hd i with
            | false => rfl
            | true =>
              have := mono i ((lo + hi) / 2) (by omega) (by omega) e2
              rw [g] at this
              cases this
          · show ((hi : Int) - ((((lo + hi) / 2 : Nat) : Int) + 1)).toNat < ((hi : Int) - (lo : Int)).toNat
            omega
      · have c : ¬ ((lo : Int) < (hi : Int)) := dec_f c
        have e : lo = hi := by omega
        subst e
        exact ⟨_,rfl,q lo H1 I1 h2 h3 h4⟩
    · rintro σ H' Q1 Q2 hq ⟨v,e,v2,e2,i,j,e3,e4,k,ek,r⟩
      exact ⟨v,e,v2,e2,i,j,e3,e4,k,ek,hq _ _ r⟩
def qP : Str := "put_in" ++ ".<locals>." ++ "<lambda>"
def laP : Expr := callArg ((defBody (top 30)).getD 0 (.Pass ⟨0,0,0,0⟩)) 1
def lsP : List (Pos × Str) := [(lamPos laP,qP)]
def ltF (p q : Addr × Int × Int) : Prop := p.2.1 * q.2.2 < q.2.1 * p.2.2
structure Ris (H : Hp) (l : Addr) (fs : Crn) : Prop where
  lst : H l = some (.lst (fs.map fun (q : Addr × Int × Int) => V.ref q.1))
  fr : ∀ q ∈ fs,H q.1 = some (.tup [.int q.2.1,.int q.2.2]) ∧ Low q.2.1 q.2.2 ∧ bits q.2.1 ≤ 2000 ∧ bits q.2.2 ≤ 2000
  up : fs.Pairwise ltF
def hdP (fs : Crn) (a b : Int) (k : Nat) : Bool := match fs[k]? with
  | some p => !decide (p.2.1 * b < a * p.2.2)
  | none => true
theorem hdP_mono {H : Hp} {l : Addr} {fs : Crn} {a b : Int} (R : Ris H l fs) (hb : 0 < b) (i j : Nat) (h : i ≤ j) (hj : j < fs.length) (e : hdP fs a b i = true) : hdP fs a b j = true := by
  by_cases z : i = j
  · subst z
    exact e
  have hi : fs[i]? = some (fs[i]'(by omega)) := List.getElem?_eq_getElem (by omega)
  have hj' : fs[j]? = some (fs[j]'hj) := List.getElem?_eq_getElem hj
  have u : ltF (fs[i]'(by omega)) (fs[j]'hj) := List.pairwise_iff_getElem.mp R.up i j (by omega) hj (by omega)
  unfold ltF at u
  have lp := (R.fr _ (List.mem_of_getElem? hi)).2.1.pos
  have lq := (R.fr _ (List.mem_of_getElem? hj')).2.1.pos
  unfold hdP at e ⊢
  rw [hi] at e
  rw [hj']
  simp only [Bool.not_eq_true',decide_eq_false_iff_not] at e ⊢
  generalize fs[i]'(by omega) = p at e u lp
  generalize fs[j]'hj = q at u lq ⊢
  intro c
  have h1 : q.2.1 * b * p.2.2 < a * q.2.2 * p.2.2 := Int.mul_lt_mul_of_pos_right c lp
  have h2 : p.2.1 * q.2.2 * b < q.2.1 * p.2.2 * b := Int.mul_lt_mul_of_pos_right u hb
  have h3 : a * p.2.2 * q.2.2 ≤ p.2.1 * b * q.2.2 := Int.mul_le_mul_of_nonneg_right (by omega) (by omega)
  have e1 : q.2.1 * b * p.2.2 = q.2.1 * p.2.2 * b := by rw [Int.mul_assoc,Int.mul_comm b,← Int.mul_assoc]
  have e2 : a * q.2.2 * p.2.2 = a * p.2.2 * q.2.2 := by rw [Int.mul_assoc,Int.mul_comm q.2.2,← Int.mul_assoc]
  have e3 : p.2.1 * q.2.2 * b = p.2.1 * b * q.2.2 := by rw [Int.mul_assoc,Int.mul_comm q.2.2,← Int.mul_assoc]
  omega
def insP (fs : Crn) (m : Nat) (x : Addr × Int × Int) : Crn := fs.take m ++ [x] ++ fs.drop m
theorem le_lt {a b c d e f : Int} (hb : 0 < b) (hd : 0 < d) (hf : 0 < f) (h1 : a * d ≤ c * b) (h2 : c * f < e * d) : a * f < e * b := by
  have h3 : a * d * f ≤ c * b * f := Int.mul_le_mul_of_nonneg_right h1 (by omega)
  have h4 : c * f * b < e * d * b := Int.mul_lt_mul_of_pos_right h2 hb
  have e1 : a * d * f = a * f * d := by rw [Int.mul_assoc,Int.mul_comm d,← Int.mul_assoc]
  have e2 : c * b * f = c * f * b := by rw [Int.mul_assoc,Int.mul_comm b,← Int.mul_assoc]
  have e3 : e * d * b = e * b * d := by rw [Int.mul_assoc,Int.mul_comm d,← Int.mul_assoc]
  exact Int.lt_of_mul_lt_mul_right (a := d) (by omega) (by omega)
theorem ris_put {H H5 : Hp} {l q : Addr} {fs : Crn} {a b : Int} {m : Nat} (R : Ris H l fs) (kp : ∀ c xs,H c = some (.tup xs) → H5 c = some (.tup xs)) (e5 : H5 l = some (.lst ((fs.map fun (q : Addr × Int × Int) => V.ref q.1).take m ++ [V.ref q] ++ (fs.map fun (q : Addr × Int × Int) => V.ref q.1).drop m))) (hq : H5 q = some (.tup [.int a,.int b])) (lw : Low a b) (bd : bits a ≤ 2000 ∧ bits b ≤ 2000)
    (h1 : ∀ i,i < m → hdP fs a b i = false) (h2 : ∀ i,m ≤ i → i < fs.length → hdP fs a b i = true) (h3 : ∀ p,fs[m]? = some p → p.2 ≠ (a,b)) : Ris H5 l (insP fs m (q,a,b)) := by
  have hb : 0 < b := lw.pos
  have pos : ∀ p ∈ fs,0 < p.2.2 := fun p hp => (R.fr p hp).2.1.pos
  have low : ∀ p ∈ fs.take m,ltF p (q,a,b) := fun p hp => by
    obtain ⟨i,hi⟩ := List.getElem?_of_mem hp
    have hl := (List.getElem?_eq_some_iff.mp hi).1
    rw [List.length_take] at hl
    rw [List.getElem?_take_of_lt (by omega)] at hi
    have := h1 i (by omega)
    unfold hdP at this
    rw [hi] at this
    show p.2.1 * b < a * p.2.2
    simpa using this
  have ge : ∀ (i : Nat) p,m ≤ i → fs[i]? = some p → a * p.2.2 ≤ p.2.1 * b := fun i p hm hi => by
    have := h2 i hm (List.getElem?_eq_some_iff.mp hi).1
    unfold hdP at this
    rw [hi] at this
    simpa using this
  have high : ∀ p ∈ fs.drop m,ltF (q,a,b) p := fun p hp => by
    obtain ⟨i,hi⟩ := List.getElem?_of_mem hp
    rw [List.getElem?_drop] at hi
    have hp' := List.mem_of_getElem? hi
    have g := ge (m + i) p (by omega) hi
    show a * p.2.2 < p.2.1 * b
    by_cases z : i = 0
    · subst z
      rcases Int.lt_or_eq_of_le g with h | h
      · exact h
      · obtain ⟨e1,e2⟩ := frac_unique (a := a) (b := b) (by omega) (frac_self lw) (⟨(R.fr p hp').2.1,h⟩ : Frac a b p.2.1 p.2.2)
        exact absurd (show p.2 = (a,b) by rw [e1,e2]) (h3 p hi)
    · have lt := (List.getElem?_eq_some_iff.mp hi).1
      have hm : fs[m]? = some (fs[m]'(by omega)) := List.getElem?_eq_getElem (by omega)
      have u := List.pairwise_iff_getElem.mp R.up m (m + i) (by omega) lt (by omega)
      rw [(List.getElem?_eq_some_iff.mp hi).2] at u
      exact le_lt hb (pos _ (List.mem_of_getElem? hm)) (pos p hp') (ge m _ (Nat.le_refl _) hm) u
  refine ⟨?_,fun p hp => ?_,?_⟩
  · rw [e5]
    unfold insP
    rw [List.map_append,List.map_append,List.map_take,List.map_drop]
    rfl
  · unfold insP at hp
    simp only [List.mem_append,List.mem_singleton] at hp
    rcases hp with (hp | rfl) | hp
    · have := R.fr p (List.mem_of_mem_take hp)
      exact ⟨kp _ _ this.1,this.2⟩
    · exact ⟨hq,lw,bd.1,bd.2⟩
    · have := R.fr p (List.mem_of_mem_drop hp)
      exact ⟨kp _ _ this.1,this.2⟩
  · unfold insP
    rw [List.append_assoc,List.pairwise_append]
    have sp := R.up
    rw [← List.take_append_drop m fs,List.pairwise_append] at sp
    refine ⟨sp.1,List.pairwise_cons.mpr ⟨high,sp.2.1⟩,fun p hp x hx => ?_⟩
    rcases List.mem_cons.mp hx with rfl | hx
    · exact low p hp
    · exact sp.2.2 p hp x hx
theorem ins_mem {fs : Crn} {m : Nat} {q : Addr} {a b : Int} (x : Int × Int) : x ∈ (insP fs m (q,a,b)).map (·.2) ↔ x ∈ fs.map (·.2) ∨ x = (a,b) := by
  have h : x ∈ fs.map (·.2) ↔ x ∈ (fs.take m).map (·.2) ∨ x ∈ (fs.drop m).map (·.2) := by
    conv => lhs; rw [← List.take_append_drop m fs,List.map_append,List.mem_append]
  rw [h]
  unfold insP
  rw [List.map_append,List.map_append,List.mem_append,List.mem_append,List.map_singleton,List.mem_singleton]
  constructor
  · rintro ((h | h) | h)
    · exact .inl (.inl h)
    · exact .inr h
    · exact .inl (.inr h)
  · rintro ((h | h) | h)
    · exact .inl (.inl h)
    · exact .inr h
    · exact .inl (.inr h)
def MvL (l : Addr) (H H' : Hp) : Prop := ∀ c o,c ≠ l → H c = some o → (∀ ps,o ≠ .tbl ps) → H' c = some o
theorem tab_updL {p t : Addr} {H H' : Hp} {xs ys : List V} {ls : List (Pos × Str)} (x : Tab H t ls) (u : Upd H H' p xs ys) : Tab H' t ls := by
  obtain ⟨ps,e,tr,al⟩ := x
  have ne : ∀ {c : Addr} {o : HO},H c = some o → (∀ xs,o ≠ .lst xs) → c ≠ p := fun {c o} e n z => by
    rw [z,u.was] at e
    exact n _ (Option.some.inj e).symm
  refine ⟨ps,u.at (ne e fun xs q => by cases q) e,tr,fun l hl => (al l hl).imp_right ?_⟩
  rintro ⟨c,e2,o,vs,t,e3,r⟩
  exact ⟨c,e2,o,vs,t,u.at (ne e3 fun xs q => by cases q) e3,r⟩
def spPut (t : Addr) : Sp := fun vs H Q _ => ∃ (l q : Addr) (fs : Crn) (a b : Int),vs = [.ref l,.ref q] ∧ Tab H t lsP ∧ Ris H l fs ∧ fs.length < 900 ∧ H q = some (.tup [.int a,.int b]) ∧ Low a b ∧ (bits a ≤ 2000 ∧ bits b ≤ 2000) ∧
  ∀ (fs' : Crn) H',Tab H' t lsP → Ris H' l fs' → MvL l H H' → (∀ x : Int × Int,x ∈ fs'.map (·.2) ↔ x ∈ fs.map (·.2) ∨ x = (a,b)) → fs'.length ≤ fs.length + 1 → Q .non H'
theorem S_put_in : FnScope ["rising","square","number"] ["rising","square"] (defScope (top 30)) := ⟨rfl,rfl,rfl,by decide +kernel,rfl,by decide +kernel,by decide +kernel⟩
theorem fn_put_in {t_put_in : Addr} (D_put_in : DfT K mg "put_in" (top 30) t_put_in) (BF : BltF K mg) (F_first_number : Fn P w K mg base "first_number" ["count","holds"] 5 (spFirst P w K mg base 3)) (F_less : Fn P w K mg base "less" ["a","b"] 1 spLess) (T : Txt mg) : Fn P w K mg base "put_in" ["rising","square"] 6 (spPut t_put_in) := by
  refine D_put_in.fn S_put_in (fun _ _ _ _ _ _ us hl => by obtain ⟨_,_,rfl⟩ := len2 hl; rfl) (fun vs H Q E h => ?_) (fun f cdv A outer s H vs Q E CF hr h => ?_)
  · obtain ⟨l,q,fs,a,b,rfl,_⟩ := h
    rfl
  · obtain ⟨l,q,fs,a,b,rfl,tb,R,hlen,hq,lw,⟨ba,bb⟩,k⟩ := h
    obtain ⟨c,ec,CF⟩ := CF
    have CL_a : closureFor (lamScope laP) (cxOf CX0 P w K mg base ["rising","square","number"] "put_in" (defScope (top 30)) f cdv A outer s H E).nox.env = pure ([("square",s.heap.objs.size + 2),("rising",s.heap.objs.size + 1)] : List (Str × Addr)) := by rfl
    have CM_a : (lamPos laP,qP) ∈ lsP := List.mem_cons_self
    have CD_a : ∀ l ∈ lsP,l ≠ (lamPos laP,qP) → ¬ (l.1.line = (lamPos laP).line ∧ l.1.col = (lamPos laP).col) := by
      intro l hl ne
      rw [List.mem_singleton.mp hl] at ne
      exact absurd rfl ne
    have CS : ∀ p ∈ [((s.heap.objs.size + 1 : Addr),0),(s.heap.objs.size + 2,1)],∃ y,(cxOf CX0 P w K mg base ["rising","square","number"] "put_in" (defScope (top 30)) f cdv A outer s H E).nox.env.cells.lookup y = some p.1 ∧ (cxOf CX0 P w K mg base ["rising","square","number"] "put_in" (defScope (top 30)) f cdv A outer s H E).nox.N[p.2]? = some y ∧ (cxOf CX0 P w K mg base ["rising","square","number"] "put_in" (defScope (top 30)) f cdv A outer s H E).nox.env.kindOf y = some .cell ∧ Vis (cxOf CX0 P w K mg base ["rising","square","number"] "put_in" (defScope (top 30)) f cdv A outer s H E).nox.env.scope y := by
      intro p hp
      simp only [List.mem_cons,List.not_mem_nil,or_false] at hp
      rcases hp with rfl | rfl
      · exact ⟨"rising",rfl,rfl,rfl,.inr (.inl rfl)⟩
      · exact ⟨"square",rfl,rfl,rfl,.inr (.inl rfl)⟩
    refine ⟨_,(pss_cons (ps_set (i := 2) S_put_in.nd rfl (Or.inl rfl) (pe_fnL F_first_number (hr.mono (by decide)) (by rfl) (fun _ => rfl) CS (pa_cons (pe_callB call_len_seq (by rfl) T.z_len bt_len (pa_cons (pv 0) pa_nil)) (pa_cons (pe_lam CL_a ec CF BF rfl rfl CM_a CD_a) pa_nil)))) (pss_one (ps_if (pw_or (pt_cmpR op_eq (pv 2) (pe_callB call_len_seq (by rfl) T.z_len bt_len (pa_cons (pv 0) pa_nil)) (nomark _)) (pw_or1 (pt_cmpR (op_neI hr.units0) (pe_ix ix_list (pv 0) (pv 2) (fun _ _ => rfl)) (pv 1) (nomark _)))).pt (pss_one (ps_expr (pe_bm PySem.F.plainAttrs_list PySem.F.slot_list_insert PySem.F.type_list_insert mt_insA (pv 0) (pa_cons (pv 2) (pa_cons (pv 1) pa_nil))))) pss_nil))),?_⟩
    have hl : (fs.map fun (q : Addr × Int × Int) => V.ref q.1).length = fs.length := List.length_map _
    refine ⟨_,rfl,l,_,rfl,.inl (SqL.of R.lst),tb,fun fa H1 P1 tb1 la1 nfa => fun H2 s2 cells => ?_⟩
    have kp : ∀ {x : Addr} {ob : HO},H x = some ob → (∀ ps,ob ≠ .tbl ps) → H2 x = some ob := fun e n => s2 _ _ (P1.keep tb e n)
    have c1 := cells (s.heap.objs.size + 1,0) List.mem_cons_self (.ref l) rfl
    have c2 := cells (s.heap.objs.size + 2,1) (List.mem_cons_of_mem _ List.mem_cons_self) (.ref q) rfl
    have la2 := la1.same fun x ob e => s2 _ _ e
    have l2 := kp R.lst (fun ps q => by cases q)
    have q2 := kp hq (fun ps q => by cases q)
    have FN : FnH P w K mg base 3 (fun H' => Same H2 H') fa (fs.map fun (q : Addr × Int × Int) => V.ref q.1).length (hdP fs a b) := by
      refine ⟨fun H' s' => by obtain ⟨o,fd,e,d⟩ := la2.obj; exact ⟨o,fd,s' _ _ e,d⟩,?_⟩
      obtain ⟨pm,cc,ct,ea,ck6⟩ := la2
      have LN : LamN "k" (lamScope laP) [("square",s.heap.objs.size + 2),("rising",s.heap.objs.size + 1)] := by
        refine ⟨rfl,rfl,rfl,by decide +kernel,rfl,by rfl,?_,fun p hp => ?_,fun p hp q hq e => ?_⟩
        · show (["k","square","rising"] : List Str).Nodup
          decide +kernel
        · simp only [List.mem_cons,List.not_mem_nil,or_false] at hp
          rcases hp with rfl | rfl <;> rfl
        · simp only [List.mem_cons,List.not_mem_nil,or_false] at hp hq
          have e1 : s.heap.objs.size + 2 ≠ s.heap.objs.size + 1 := by omega
          rcases hp with rfl | rfl
          · rcases hq with rfl | rfl
            · rfl
            · exact absurd e e1
          · rcases hq with rfl | rfl
            · exact absurd e.symm e1
            · rfl
      refine ⟨_,⟨_,["k"],lam_fn (P := P) (w := w) (K := K) (mg := mg) (base := base) (x := "k") (q := qP) (params := lamArgs laP) (body := lamBody laP) (scope := lamScope laP) (pm := pm) (ctv := ct) (f := fa) (c := cc) (k := 2) LN (fun A2 o2 s2 H2 hr2 => pe_not (pe_fn F_less (hr2.mono (by decide)) (by rfl) (pa_cons (pe_ix (ix_listK (K := K) rfl) (pv 2) (pv 0) (fun _ _ => rfl)) (pa_cons (pv 1) pa_nil)))),.all fun us hl => by obtain ⟨_,rfl⟩ := len1 hl; rfl⟩,?_⟩
      intro H' i Q' s' hi k
      have cs : Paired (fun (p : Str × Addr) z => CellAt H' p.2 z) [("square",s.heap.objs.size + 2),("rising",s.heap.objs.size + 1)] [.ref q,.ref l] := .cons (c2.mono s') (.cons (c1.mono s') .nil)
      have hC := cells_kn cs
      have CK : CodeK H' cc qP := by
        obtain ⟨o,vs,t,e,r⟩ := ck6
        exact ⟨o,vs,t,s' _ _ e,r⟩
      rw [hl] at hi
      have hp : fs[i]? = some (fs[i]'hi) := List.getElem?_eq_getElem hi
      generalize fs[i]'hi = p at hp
      obtain ⟨fp,lp,bp1,bp2⟩ := R.fr p (List.mem_of_getElem? hp)
      have fp2 := kp fp (fun ps q => by cases q)
      refine ⟨.int (i : Int),[.ref q,.ref l],rfl,s' _ _ ea,CK,cs,?_⟩
      refine ⟨_,rfl,_,rfl,l,_,_,_,rfl,rfl,SqL.of (cut_keep hC (s' _ _ l2) (fun z q => by cases q)),atI_nat (j := i) (v := .ref p.1) (by rw [List.getElem?_map,hp]; rfl),_,rfl,p.1,q,p.2.1,p.2.2,a,b,rfl,cut_keep hC (s' _ _ fp2) (fun z q => by cases q),cut_keep hC (s' _ _ q2) (fun z q => by cases q),⟨bp1,bp2,ba,bb⟩,_,rfl,fun hC1 => ?_⟩
      rw [show (!decide (p.2.1 * b < a * p.2.2)) = hdP fs a b i by unfold hdP; rw [hp]]
      exact k _ (s'.trans (putc_same (Same.refl _)))
    refine ⟨fa,_,hdP fs a b,fun H' => Same H2 H',rfl,Same.refl _,FN,fun i j h hj => hdP_mono R lw.pos i j h (by rw [← hl]; exact hj),fun m H3 s3 m1 m2 m3 H4 k1 k2 => ?_⟩
    rw [hl] at m1 m3
    have S4 : Same H1 H4 := fun x ob e => k2 x ob e (s3 _ _ (s2 _ _ e))
    have tb4 := tb1.same S4
    have kp4 : ∀ {x : Addr} {ob : HO},H x = some ob → (∀ ps,ob ≠ .tbl ps) → H4 x = some ob := fun e n => S4 _ _ (P1.keep tb e n)
    have l4 := kp4 R.lst (fun ps q => by cases q)
    have q4 := kp4 hq (fun ps q => by cases q)
    have t4 : ∀ c xs,H c = some (.tup xs) → H4 c = some (.tup xs) := fun c xs e => kp4 e (fun ps q => by cases q)
    have fin : ∀ (h3 : ∀ p,fs[m]? = some p → p.2 ≠ (a,b)) H5,Upd H4 H5 l (fs.map fun (q : Addr × Int × Int) => V.ref q.1) ((fs.map fun (q : Addr × Int × Int) => V.ref q.1).take ((m : Int)).toNat ++ [V.ref q] ++ (fs.map fun (q : Addr × Int × Int) => V.ref q.1).drop ((m : Int)).toNat) → Q .non H5 := fun h3 H5 u => by
      have e5 := u.now
      rw [Int.toNat_natCast] at e5
      refine k (insP fs m (q,a,b)) H5 (tab_updL tb4 u) (ris_put R (fun c xs e => u.t _ _ (t4 c xs e)) e5 (u.t _ _ q4) lw ⟨ba,bb⟩ m2 m3 h3) (fun c o n e mm => u.at n (kp4 e mm)) (fun x => ins_mem x) ?_
      unfold insP
      rw [List.length_append,List.length_append,List.length_take,List.length_drop,List.length_singleton]
      omega
    refine ⟨_,rfl,_,rfl,l,_,rfl,.inl (SqL.of l4),rfl,_,rfl,ite3 (fun c1 => ?_) (fun c1 => ?_)⟩
    · have c1 : (m : Int) = (((fs.map fun (q : Addr × Int × Int) => V.ref q.1).length : Nat) : Int) := by simpa using c1
      rw [hl] at c1
      refine ⟨_,rfl,.inl ⟨rfl,_,SqL.of l4⟩,_,rfl,_,rfl,l,_,_,_,rfl,rfl,l4,⟨by omega,by rw [hl]; omega⟩,by rw [hl]; omega,fun H5 u => fin (fun p hp => ?_) H5 u⟩
      rw [List.getElem?_eq_none (by omega)] at hp
      cases hp
    · have c1 : ¬ (m : Int) = (((fs.map fun (q : Addr × Int × Int) => V.ref q.1).length : Nat) : Int) := by simpa using c1
      rw [hl] at c1
      have hm : m < fs.length := by omega
      have hp : fs[m]? = some (fs[m]'hm) := List.getElem?_eq_getElem hm
      generalize fs[m]'hm = p at hp
      have fp := R.fr p (List.mem_of_getElem? hp)
      refine ⟨_,rfl,_,rfl,l,_,_,_,rfl,rfl,SqL.of l4,atI_nat (j := m) (v := .ref p.1) (by rw [List.getElem?_map,hp]; rfl),_,rfl,p.1,q,[p.2.1,p.2.2],[a,b],rfl,rfl,SqT.of (t4 _ _ fp.1),SqT.of q4,_,rfl,ite3 (fun c2 => ?_) (fun c2 => ?_)⟩
      · have c2 : ¬ (p.2.1 = a ∧ p.2.2 = b) := fun ⟨z1,z2⟩ => by rw [z1,z2] at c2; simp at c2
        refine ⟨_,rfl,.inl ⟨rfl,_,SqL.of l4⟩,_,rfl,_,rfl,l,_,_,_,rfl,rfl,l4,⟨by omega,by rw [hl]; omega⟩,by rw [hl]; omega,fun H5 u => fin (fun p' hp' z => ?_) H5 u⟩
        rw [hp] at hp'
        cases hp'
        exact c2 ⟨congrArg (·.1) z,congrArg (·.2) z⟩
      · have c2 : p.2.1 = a ∧ p.2.2 = b := by simpa using c2
        refine k fs H4 tb4 ⟨l4,fun x hx => ⟨t4 _ _ (R.fr x hx).1,(R.fr x hx).2⟩,R.up⟩ (fun c o n e mm => kp4 e mm) (fun x => ⟨.inl,fun h => ?_⟩) (by omega)
        rcases h with h | h
        · exact h
        · rw [h,← c2.1,← c2.2]
          exact List.mem_map.mpr ⟨p,List.mem_of_getElem? hp,rfl⟩
def sqI (c d : Int × Int) : Int := (c.1 - d.1) * (c.1 - d.1) + (c.2 - d.2) * (c.2 - d.2)
theorem sqI_comm (c d : Int × Int) : sqI c d = sqI d c := by unfold sqI; grind
theorem sqI_nn (c d : Int × Int) : 0 ≤ sqI c d := by
  unfold sqI
  have h1 : 0 ≤ (c.1 - d.1) * (c.1 - d.1) := le_prod (by omega)
  have h2 : 0 ≤ (c.2 - d.2) * (c.2 - d.2) := le_prod (by omega)
  omega
def lowF (a b : Int) : Int × Int := (a / (Int.gcd a b : Int),b / (Int.gcd a b : Int))
theorem lowF_of {a b s w : Int} (hb : 0 < b) (f : Frac a b s w) : (s,w) = lowF a b := by
  obtain ⟨e1,e2⟩ := frac_unique (by omega) f (frac_pos hb)
  rw [e1,e2]
  rfl
theorem frac_move {A M N D s w : Int} (hM : 0 < M) (f : Frac A M s w) (e : A * D = N * M) : Frac N D s w := by
  refine ⟨f.low,?_⟩
  have h := f.eq
  refine Int.eq_of_mul_eq_mul_right (show M ≠ 0 by omega) ?_
  have e1 : N * w * M = N * M * w := Int.mul_right_comm _ _ _
  rw [e1,← e,Int.mul_right_comm A D w,h,Int.mul_right_comm]
def leA (c x y : Int × Int) : Int := (c.1 - x.1) * (y.1 - x.1) + (c.2 - x.2) * (y.2 - x.2)
def leL (x y : Int × Int) : Int := (y.1 - x.1) * (y.1 - x.1) + (y.2 - x.2) * (y.2 - x.2)
theorem leL_nn (x y : Int × Int) : 0 ≤ leL x y := sqI_nn y x
def leF (c x y : Int × Int) : Int × Int := if leL x y = 0 ∨ leA c x y < 0 then (sqI c x,1) else if leL x y < leA c x y then (sqI c y,1) else (sqI c x * leL x y - leA c x y * leA c x y,leL x y)
def leV (c x y : Int × Int) : Int × Int := lowF (leF c x y).1 (leF c x y).2
theorem leF_pos (c x y : Int × Int) : 0 < (leF c x y).2 := by
  have := leL_nn x y
  unfold leF
  split
  · exact (by decide : (0 : Int) < 1)
  · split
    · exact (by decide : (0 : Int) < 1)
    · rename_i h _
      show 0 < leL x y
      omega
def Cb (c : Int × Int) : Prop := bits c.1 ≤ 50 ∧ bits c.2 ≤ 50
theorem sqI_bits {c d : Int × Int} (h : Cb c) (h' : Cb d) : bits (sqI c d) ≤ 103 := by
  have a := bits_sub h.1 h'.1
  have b := bits_sub h.2 h'.2
  exact bits_le (bits_add (bits_mul a a) (bits_mul b b)) (by decide)
theorem leA_bits {c x y : Int × Int} (h : Cb c) (h1 : Cb x) (h2 : Cb y) : bits (leA c x y) ≤ 103 :=
  bits_le (bits_add (bits_mul (bits_sub h.1 h1.1) (bits_sub h2.1 h1.1)) (bits_mul (bits_sub h.2 h1.2) (bits_sub h2.2 h1.2))) (by decide)
theorem leL_bits {x y : Int × Int} (h1 : Cb x) (h2 : Cb y) : bits (leL x y) ≤ 103 := sqI_bits h2 h1
theorem leF_bits {c x y : Int × Int} (h : Cb c) (h1 : Cb x) (h2 : Cb y) : bits (leF c x y).1 ≤ 300 ∧ bits (leF c x y).2 ≤ 300 := by
  unfold leF
  split
  · exact ⟨bits_le (sqI_bits h h1) (by decide),(by decide : bits 1 ≤ 300)⟩
  · split
    · exact ⟨bits_le (sqI_bits h h2) (by decide),(by decide : bits 1 ≤ 300)⟩
    · exact ⟨bits_le (bits_sub (bits_mul (sqI_bits h h1) (leL_bits h1 h2)) (bits_mul (leA_bits h h1 h2) (leA_bits h h1 h2))) (by decide),bits_le (leL_bits h1 h2) (by decide)⟩
theorem pt1 (p : Addr) (c : Int × Int) : ptX [(p,c)] 0 1 = c.1 ∧ ptY [(p,c)] 0 1 = c.2 := by
  constructor
  · show c.1 * 1 + (c.1 - c.1) * (0 % 1) = c.1
    omega
  · show c.2 * 1 + (c.2 - c.2) * (0 % 1) = c.2
    omega
theorem pt2 {p q : Addr} {x y : Int × Int} {T B : Int} (hB : 0 < B) (h0 : 0 ≤ T) (h1 : T ≤ B) : ptX [(p,x),(q,y)] T B = x.1 * B + (y.1 - x.1) * T ∧ ptY [(p,x),(q,y)] T B = x.2 * B + (y.2 - x.2) * T := by
  have a := ptX_on (qs := [(p,x),(q,y)]) (t := T) (b := B) (k := 0) hB (by simp) (by simp; omega) (by simp; omega)
  have b := ptY_on (qs := [(p,x),(q,y)]) (t := T) (b := B) (k := 0) hB (by simp) (by simp; omega) (by simp; omega)
  rw [a,b]
  have e : T - ((0 : Nat) : Int) * B = T := by simp
  rw [e]
  exact ⟨rfl,rfl⟩
theorem sq2 {r p q : Addr} {c x y : Int × Int} {T B : Int} (hB : 0 < B) (h0 : 0 ≤ T) (h1 : T ≤ B) : sqF [(r,c)] 0 1 [(p,x),(q,y)] T B = B * B * sqI c x - 2 * B * T * leA c x y + T * T * leL x y := by
  unfold sqF
  rw [(pt1 r c).1,(pt1 r c).2,(pt2 (p := p) (q := q) (x := x) (y := y) hB h0 h1).1,(pt2 (p := p) (q := q) (x := x) (y := y) hB h0 h1).2]
  unfold sqN sqI leA leL
  grind
theorem least_val {r p q : Addr} {c x y : Int × Int} {T B s w : Int} (hB : 0 < B) (h0 : 0 ≤ T) (h1 : T ≤ B) (h : LPc (ptX [(r,c)] 0 1) (ptY [(r,c)] 0 1) 1 [(p,x),(q,y)] 0 1 1 1 T B) (f : Frac (sqF [(r,c)] 0 1 [(p,x),(q,y)] T B) (sqD 1 B) s w) : Frac (leF c x y).1 (leF c x y).2 s w := by
  have hD : 0 < sqD 1 B := by
    unfold sqD
    exact Int.mul_pos (by omega) (by omega)
  refine frac_move hD f ?_
  rw [sq2 hB h0 h1]
  rcases h with ⟨z,_⟩ | ⟨k,st,cl⟩
  · exact absurd z (by decide)
  have hk : k = 0 := by
    have := st.kn
    change k + 1 < 2 at this
    omega
  subst hk
  have eL : kL [(p,x),(q,y)] 0 = leL x y := rfl
  have eA : kA (ptX [(r,c)] 0 1) (ptY [(r,c)] 0 1) 1 [(p,x),(q,y)] 0 = leA c x y := by
    rw [(pt1 r c).1,(pt1 r c).2]
    show (c.1 - x.1 * 1) * (y.1 - x.1) + (c.2 - x.2 * 1) * (y.2 - x.2) = _
    rw [Int.mul_one,Int.mul_one]
    rfl
  rw [eL,eA] at cl
  have e1 : (0 : Int) - ((0 : Nat) : Int) * 1 = 0 := by decide
  have e2 : (1 : Int) - ((0 : Nat) : Int) * 1 = 1 := by decide
  have e3 : T - ((0 : Nat) : Int) * B = T := by simp
  rw [e1,e2,e3] at cl
  have hL := leL_nn x y
  have e4 : sqI c y = sqI c x - 2 * leA c x y + leL x y := by
    unfold sqI leA leL
    grind
  unfold leF sqD
  rcases cl with ⟨rfl,rfl,z⟩ | ⟨rfl,rfl,z1,z2,z3⟩ | ⟨z1,z2,z3,z4⟩
  · rw [if_pos (by omega)]
    simp
  · rw [if_neg (by omega),if_pos (by omega)]
    simp only [e4]
    omega
  · rw [if_neg (by omega),if_neg (by omega)]
    simp only
    rw [Int.mul_one] at z4
    generalize leA c x y = al at *
    generalize leL x y = L at *
    generalize sqI c x = G at *
    grind
def Cn (H : Hp) (p : Addr) (c : Int × Int) : Prop := H p = some (.tup [.int c.1,.int c.2]) ∧ Cb c
theorem Cn.mono {H H' : Hp} {p : Addr} {c : Int × Int} (h : Cn H p c) (s : Same H H') : Cn H' p c := ⟨s _ _ h.1,h.2⟩
theorem line1 {H : Hp} {l p : Addr} {c : Int × Int} (e : H l = some (.lst [.ref p])) (h : Cn H p c) : LineAt H l [(p,c)] := ⟨e,fun q hq => by
  rw [List.mem_singleton.mp hq]
  exact ⟨h.1,h.2⟩⟩
theorem line2 {H : Hp} {l p q : Addr} {c d : Int × Int} (e : H l = some (.lst [.ref p,.ref q])) (h : Cn H p c) (h' : Cn H q d) : LineAt H l [(p,c),(q,d)] := ⟨e,fun z hz => by
  simp only [List.mem_cons,List.not_mem_nil,or_false] at hz
  rcases hz with rfl | rfl
  · exact ⟨h.1,h.2⟩
  · exact ⟨h'.1,h'.2⟩⟩
theorem pl01 {H : Hp} {z : Addr} {n : Int} (e : H z = some (.tup [.int 0,.int 1])) (h : 0 ≤ n) : Plc H z 0 1 n := ⟨e,⟨by decide,by decide⟩,by decide,by omega,by decide,by decide⟩
theorem pl11 {H : Hp} {z : Addr} {n : Int} (e : H z = some (.tup [.int 1,.int 1])) (h : 1 ≤ n) : Plc H z 1 1 n := ⟨e,⟨by decide,by decide⟩,by decide,by omega,by decide,by decide⟩
def spApt : Sp := fun vs H Q _ => ∃ (p q : Addr) (c d : Int × Int),vs = [.ref p,.ref q] ∧ Cn H p c ∧ Cn H q d ∧ ∀ (r : Addr) H',Same H H' → H' r = some (.tup [.int (sqI c d),.int 1]) → Q (.ref r) H'
def spLeB : Sp := fun vs H Q _ => ∃ (p l p1 p2 : Addr) (c x y : Int × Int),vs = [.ref p,.ref l] ∧ Cn H p c ∧ H l = some (.lst [.ref p1,.ref p2]) ∧ Cn H p1 x ∧ Cn H p2 y ∧ ∀ (r : Addr) (s w : Int) H',Same H H' → Fr2 H' r s w 300 → (s,w) = leV c x y → Q (.ref r) H'
theorem S_square_apart : FnScope ["corner","beside"] ["corner","beside"] (defScope (top 31)) := ⟨rfl,rfl,rfl,by decide +kernel,rfl,by decide +kernel,by decide +kernel⟩
theorem fn_square_apart {C2 : Addr} (D_square_apart : Df K mg "square_apart" (top 31)) (F_square_of : Fx P w K mg base "square_of" ["one","x","other","y"] 6 [] (spSquare C2)) : Fn P w K mg base "square_apart" ["corner","beside"] 7 spApt := by
  refine D_square_apart.fn S_square_apart (fun _ _ _ _ _ _ us hl => by obtain ⟨_,_,rfl⟩ := len2 hl; rfl) (fun vs H Q E h => ?_) (fun f cdv A outer s H vs Q E hr h => ?_)
  · obtain ⟨p,q,c,d,rfl,_⟩ := h
    rfl
  · obtain ⟨p,q,c,d,rfl,hc,hd,k⟩ := h
    refine ⟨_,(pss_one (ps_ret (pe_fx0 F_square_of (hr.mono (by decide)) (by rfl) (pa_cons (pe_lstA (pa_cons (pv 0) pa_nil)) (pa_cons (pe_tupA (pa_cons pe_int (pa_cons pe_int pa_nil))) (pa_cons (pe_lstA (pa_cons (pv 1) pa_nil)) (pa_cons (pe_tupA (pa_cons pe_int (pa_cons pe_int pa_nil))) pa_nil))))))),?_⟩
    refine ⟨_,rfl,sz (by simp),fun l1 H1 s1 f1 _ => ?_⟩
    refine ⟨sz (by simp),fun z1 H2 s2 f2 _ => ?_⟩
    refine ⟨_,rfl,sz (by simp),fun l2 H3 s3 f3 _ => ?_⟩
    refine ⟨sz (by simp),fun z2 H4 s4 f4 _ => ?_⟩
    have S4 := s1.trans (s2.trans (s3.trans s4))
    have P1 : Plc H4 z1 0 1 (lst_ [(p,c)]) := pl01 (s4 _ _ (s3 _ _ f2)) (by unfold lst_; simp)
    have P2 : Plc H4 z2 0 1 (lst_ [(q,d)]) := pl01 f4 (by unfold lst_; simp)
    refine ⟨l1,l2,[(p,c)],[(q,d)],_,_,rfl,line1 (s4 _ _ (s3 _ _ (s2 _ _ f1))) (hc.mono S4),line1 (s4 _ _ f3) (hd.mono S4),⟨by simp,by simp⟩,⟨by simp,by simp⟩,P1.th,P2.th,.inr ⟨z1,0,1,rfl,P1,.inr ⟨z2,0,1,rfl,P2,fun r s w H5 fr f5 s5 => ?_⟩⟩⟩
    have e : sqF [(p,c)] 0 1 [(q,d)] 0 1 = sqI c d := by
      unfold sqF
      rw [(pt1 p c).1,(pt1 p c).2,(pt1 q d).1,(pt1 q d).2]
      unfold sqN sqI
      grind
    rw [e] at fr
    have lw : Low (sqI c d) 1 := ⟨by decide,by rw [Int.gcd_one]⟩
    obtain ⟨e1,e2⟩ := frac_unique (by decide) fr (frac_self lw)
    have at5 := f5.at_
    rw [e1,e2] at at5
    exact k r H5 (S4.trans s5) at5
theorem S_least_beside : FnScope ["corner","stretch"] ["corner","stretch"] (defScope (top 32)) := ⟨rfl,rfl,rfl,by decide +kernel,rfl,by decide +kernel,by decide +kernel⟩
theorem fn_least_beside {C : Addr} (D_least_beside : Df K mg "least_beside" (top 32)) (F_least_along : Fx P w K mg base "least_along" ["one","x","other","low","high"] 6 [] (spLeast C)) : Fn P w K mg base "least_beside" ["corner","stretch"] 7 spLeB := by
  refine D_least_beside.fn S_least_beside (fun _ _ _ _ _ _ us hl => by obtain ⟨_,_,rfl⟩ := len2 hl; rfl) (fun vs H Q E h => ?_) (fun f cdv A outer s H vs Q E hr h => ?_)
  · obtain ⟨p,l,p1,p2,c,x,y,rfl,_⟩ := h
    rfl
  · obtain ⟨p,l,p1,p2,c,x,y,rfl,hc,hl,hx,hy,k⟩ := h
    refine ⟨_,(pss_one (ps_ret (pe_ix ix_tup (pe_fx0 F_least_along (hr.mono (by decide)) (by rfl) (pa_cons (pe_lstA (pa_cons (pv 0) pa_nil)) (pa_cons (pe_tupA (pa_cons pe_int (pa_cons pe_int pa_nil))) (pa_cons (pv 1) (pa_cons (pe_tupA (pa_cons pe_int (pa_cons pe_int pa_nil))) (pa_cons (pe_tupA (pa_cons pe_int (pa_cons pe_int pa_nil))) pa_nil)))))) pe_int (fun _ _ => rfl)))),?_⟩
    refine ⟨_,rfl,sz (by simp),fun l1 H1 s1 f1 _ => ?_⟩
    refine ⟨sz (by simp),fun z1 H2 s2 f2 _ => ?_⟩
    refine ⟨_,rfl,sz (by simp),fun z2 H3 s3 f3 _ => ?_⟩
    refine ⟨sz (by simp),fun z3 H4 s4 f4 _ => ?_⟩
    have S4 := s1.trans (s2.trans (s3.trans s4))
    have P1 : Plc H4 z1 0 1 (lst_ [(p,c)]) := pl01 (s4 _ _ (s3 _ _ f2)) (by unfold lst_; simp)
    have P2 : Plc H4 z2 0 1 (lst_ [(p1,x),(p2,y)]) := pl01 (s4 _ _ f3) (by unfold lst_; simp)
    have P3 : Plc H4 z3 1 1 (lst_ [(p1,x),(p2,y)]) := pl11 f4 (by unfold lst_; simp)
    refine ⟨l1,l,[(p,c)],[(p1,x),(p2,y)],_,_,_,rfl,line1 (s4 _ _ (s3 _ _ (s2 _ _ f1))) (hc.mono S4),line2 (S4 _ _ hl) (hx.mono S4) (hy.mono S4),⟨by simp,by simp⟩,⟨by simp,by simp⟩,P1.th,P2.th,P3.th,.inr ⟨z1,0,1,rfl,P1,.inr ⟨z2,0,1,rfl,P2,.inr ⟨z3,1,1,rfl,P3,by decide,by decide,by decide,.inr ⟨0,⟨by simp,by simp,by simp,by simp⟩⟩,?_⟩⟩⟩⟩
    intro r rs rp s w T B H5 e5 fs pl lp r0 r1 fr s5
    refine ⟨r,_,_,_,rfl,rfl,SqT.of e5,rfl,?_⟩
    have fv := least_val pl.low.pos (by omega) (by omega) lp fr
    have bd := leF_bits hc.2 hx.2 hy.2
    have bd2 := frac_bits (leF_pos c x y) fv bd.1 bd.2
    exact k rs s w H5 (S4.trans s5) ⟨fs.at_,fs.low,bd2.1,bd2.2⟩ (lowF_of (leF_pos c x y) fv)
def evS (c m x y : Int × Int) : Int := 2 * ((c.1 - m.1) * (y.1 - x.1) + (c.2 - m.2) * (y.2 - x.2))
def evT (c m x : Int × Int) : Int := sqI c x - sqI m x
def evP (c m x y : Int × Int) : Int × Int := if evS c m x y < 0 then (0 - evT c m x,0 - evS c m x y) else (evT c m x,evS c m x y)
def evF (c x y p : Int × Int) : Int × Int := (p.2 * p.2 * sqI c x - 2 * p.2 * p.1 * leA c x y + p.1 * p.1 * leL x y,p.2 * p.2)
def evV (c m x y : Int × Int) : List (Int × Int) := if (evP c m x y).2 = 0 ∨ (evP c m x y).1 < 0 ∨ (evP c m x y).2 < (evP c m x y).1 then [] else [lowF (evF c x y (evP c m x y)).1 (evF c x y (evP c m x y)).2]
theorem evP_nn (c m x y : Int × Int) : 0 ≤ (evP c m x y).2 := by
  unfold evP
  split
  · show 0 ≤ 0 - evS c m x y
    omega
  · show 0 ≤ evS c m x y
    omega
theorem evS_bits {c m x y : Int × Int} (h : Cb c) (h' : Cb m) (h1 : Cb x) (h2 : Cb y) : bits (evS c m x y) ≤ 110 :=
  bits_le (bits_mul (show bits 2 ≤ 2 by decide) (bits_add (bits_mul (bits_sub h.1 h'.1) (bits_sub h2.1 h1.1)) (bits_mul (bits_sub h.2 h'.2) (bits_sub h2.2 h1.2)))) (by decide)
theorem evT_bits {c m x : Int × Int} (h : Cb c) (h' : Cb m) (h1 : Cb x) : bits (evT c m x) ≤ 110 := bits_le (bits_sub (sqI_bits h h1) (sqI_bits h' h1)) (by decide)
theorem evP_bits {c m x y : Int × Int} (h : Cb c) (h' : Cb m) (h1 : Cb x) (h2 : Cb y) : bits (evP c m x y).1 ≤ 111 ∧ bits (evP c m x y).2 ≤ 111 := by
  have a := evS_bits h h' h1 h2
  have b := evT_bits h h' h1
  have z : bits 0 ≤ 110 := by decide
  unfold evP
  split
  · exact ⟨bits_sub z b,bits_sub z a⟩
  · exact ⟨bits_le b (by decide),bits_le a (by decide)⟩
theorem evF_bits {c x y p : Int × Int} (h : Cb c) (h1 : Cb x) (h2 : Cb y) (hp : bits p.1 ≤ 111 ∧ bits p.2 ≤ 111) : bits (evF c x y p).1 ≤ 400 ∧ bits (evF c x y p).2 ≤ 400 := by
  have b2 : bits 2 ≤ 2 := by decide
  have h1' : bits (p.2 * p.2 * sqI c x) ≤ 350 := bits_le (bits_mul (bits_mul hp.2 hp.2) (sqI_bits h h1)) (by decide)
  have h2' : bits (2 * p.2 * p.1 * leA c x y) ≤ 350 := bits_le (bits_mul (bits_mul (bits_mul b2 hp.2) hp.1) (leA_bits h h1 h2)) (by decide)
  have h3' : bits (p.1 * p.1 * leL x y) ≤ 351 := bits_le (bits_mul (bits_mul hp.1 hp.1) (leL_bits h1 h2)) (by decide)
  exact ⟨bits_le (bits_add (bits_sub h1' h2') h3') (by decide),bits_le (bits_mul hp.2 hp.2) (by decide)⟩
structure FrL (H : Hp) (l : Addr) (fs : Crn) : Prop where
  lst : H l = some (.lst (fs.map fun (q : Addr × Int × Int) => V.ref q.1))
  fr : ∀ q ∈ fs,H q.1 = some (.tup [.int q.2.1,.int q.2.2]) ∧ Low q.2.1 q.2.2 ∧ bits q.2.1 ≤ 2000 ∧ bits q.2.2 ≤ 2000
theorem FrL.mono {H H' : Hp} {l : Addr} {fs : Crn} (F : FrL H l fs) (s : Same H H') : FrL H' l fs := ⟨s _ _ F.lst,fun q h => ⟨s _ _ (F.fr q h).1,(F.fr q h).2⟩⟩
theorem FrL.cat {H H' : Hp} {l : Addr} {fs gs : Crn} (F : FrL H l fs) (G : ∀ q ∈ gs,H q.1 = some (.tup [.int q.2.1,.int q.2.2]) ∧ Low q.2.1 q.2.2 ∧ bits q.2.1 ≤ 2000 ∧ bits q.2.2 ≤ 2000) (u : Upd H H' l (fs.map fun (q : Addr × Int × Int) => V.ref q.1) ((fs.map fun (q : Addr × Int × Int) => V.ref q.1) ++ gs.map fun (q : Addr × Int × Int) => V.ref q.1)) : FrL H' l (fs ++ gs) := by
  refine ⟨by rw [u.now,List.map_append],fun q hq => ?_⟩
  rcases List.mem_append.mp hq with h | h
  · exact ⟨u.t _ _ (F.fr q h).1,(F.fr q h).2⟩
  · exact ⟨u.t _ _ (G q h).1,(G q h).2⟩
def spEvn : Sp := fun vs H Q _ => ∃ (p q l p1 p2 : Addr) (c m x y : Int × Int),vs = [.ref p,.ref q,.ref l] ∧ Cn H p c ∧ Cn H q m ∧ H l = some (.lst [.ref p1,.ref p2]) ∧ Cn H p1 x ∧ Cn H p2 y ∧ ∀ (r : Addr) (fs : Crn) H',Same H H' → H r = none → FrL H' r fs → fs.map (·.2) = evV c m x y → Q (.ref r) H'
theorem even_ok {c m x y : Int × Int} {sl off t u : Int} (hs : evS c m x y = 0 - 2 * sl) (ho : evT c m x = 0 - off) (h0 : sl ≠ 0) (f : Frac off (2 * sl) t u) : 0 < (evP c m x y).2 ∧ t * (evP c m x y).2 = (evP c m x y).1 * u := by
  have e := f.eq
  unfold evP
  rw [hs,ho]
  split
  · refine ⟨show 0 < 0 - (0 - 2 * sl) by omega,?_⟩
    show t * (0 - (0 - 2 * sl)) = (0 - (0 - off)) * u
    rw [show 0 - (0 - 2 * sl) = 2 * sl by omega,show 0 - (0 - off) = off by omega,e]
  · refine ⟨show 0 < 0 - 2 * sl by omega,?_⟩
    show t * (0 - 2 * sl) = (0 - off) * u
    rw [show 0 - 2 * sl = -(2 * sl) by omega,show 0 - off = -off by omega,Int.mul_neg,Int.neg_mul,e]
theorem even_val {r p q : Addr} {c x y P : Int × Int} {t u s w : Int} (hu : 0 < u) (h0 : 0 ≤ t) (h1 : t ≤ u) (hP : 0 < P.2) (e : t * P.2 = P.1 * u) (f : Frac (sqF [(r,c)] 0 1 [(p,x),(q,y)] t u) (sqD 1 u) s w) : Frac (evF c x y P).1 (evF c x y P).2 s w := by
  have hD : 0 < sqD 1 u := by
    unfold sqD
    exact Int.mul_pos (by omega) (by omega)
  refine frac_move hD f ?_
  rw [sq2 hu h0 h1]
  unfold evF sqD
  generalize leA c x y = al
  generalize leL x y = L
  generalize sqI c x = G
  show (u * u * G - 2 * u * t * al + t * t * L) * (P.2 * P.2) = (P.2 * P.2 * G - 2 * P.2 * P.1 * al + P.1 * P.1 * L) * (1 * u * (1 * u))
  generalize P.1 = a at *
  generalize P.2 = b at *
  have e1 : 2 * u * t * al * (b * b) = 2 * u * (t * b) * al * b := by grind
  have e2 : t * t * L * (b * b) = (t * b) * (t * b) * L := by grind
  rw [Int.add_mul,Int.sub_mul,e1,e2,e]
  grind
theorem S_even_squares : FnScope ["corner","mate","stretch","begin","end","slope","off","part"] ["corner","mate","stretch"] (defScope (top 33)) := ⟨rfl,rfl,rfl,by decide +kernel,rfl,by decide +kernel,by decide +kernel⟩
theorem fn_even_squares {C C2 : Addr} (D_even_squares : Df K mg "even_squares" (top 33)) (F_square_apart : Fn P w K mg base "square_apart" ["corner","beside"] 7 spApt) (F_ratio : Fx P w K mg base "ratio" ["top","bottom"] 2 [.int 1] (spRatioN C)) (F_less : Fn P w K mg base "less" ["a","b"] 1 spLess) (F_square_of : Fx P w K mg base "square_of" ["one","x","other","y"] 6 [] (spSquare C2)) : Fn P w K mg base "even_squares" ["corner","mate","stretch"] 8 spEvn := by
  refine D_even_squares.fn S_even_squares (fun _ _ _ _ _ _ us hl => by obtain ⟨_,_,_,rfl⟩ := len3 hl; rfl) (fun vs H Q E h => ?_) (fun f cdv A outer s H vs Q E hr h => ?_)
  · obtain ⟨p,q,l,p1,p2,c,m,x,y,rfl,_⟩ := h
    rfl
  · obtain ⟨p,q,l,p1,p2,c,m,x,y,rfl,hc,hm,hl,hx,hy,k⟩ := h
    refine ⟨_,(pss_cons (ps_set (i := 3) S_even_squares.nd rfl (Or.inl rfl) (pe_ix ix_list (pv 2) pe_int (fun _ _ => rfl))) (pss_cons (ps_set (i := 4) S_even_squares.nd rfl (Or.inl rfl) (pe_ix ix_list (pv 2) pe_int (fun _ _ => rfl))) (pss_cons (ps_set (i := 5) S_even_squares.nd rfl (Or.inl rfl) (pe_op op_add (pe_op op_mulX (pe_op op_sub (pe_ix ix_tup (pv 4) pe_int (fun _ _ => rfl)) (pe_ix ix_tup (pv 3) pe_int (fun _ _ => rfl))) (pe_op op_sub (pe_ix ix_tup (pv 1) pe_int (fun _ _ => rfl)) (pe_ix ix_tup (pv 0) pe_int (fun _ _ => rfl)))) (pe_op op_mulX (pe_op op_sub (pe_ix ix_tup (pv 4) pe_int (fun _ _ => rfl)) (pe_ix ix_tup (pv 3) pe_int (fun _ _ => rfl))) (pe_op op_sub (pe_ix ix_tup (pv 1) pe_int (fun _ _ => rfl)) (pe_ix ix_tup (pv 0) pe_int (fun _ _ => rfl)))))) (pss_cons (ps_if (pt_cmpR op_eq (pv 5) pe_int (nomark _)) (pss_one (ps_ret (pe_lstA pa_nil))) pss_nil) (pss_cons (ps_set (i := 6) S_even_squares.nd rfl (Or.inl rfl) (pe_op op_sub (pe_ix ix_tup (pe_fn F_square_apart (hr.mono (by decide)) (by rfl) (pa_cons (pv 3) (pa_cons (pv 1) pa_nil))) pe_int (fun _ _ => rfl)) (pe_ix ix_tup (pe_fn F_square_apart (hr.mono (by decide)) (by rfl) (pa_cons (pv 3) (pa_cons (pv 0) pa_nil))) pe_int (fun _ _ => rfl)))) (pss_cons (ps_set (i := 7) S_even_squares.nd rfl (Or.inl rfl) (pe_fx0 F_ratio (hr.mono (by decide)) (by rfl) (pa_cons (pv 6) (pa_cons (pe_op op_mulX pe_int (pv 5)) pa_nil)))) (pss_cons (ps_if (pw_or (pt_val (pe_fn F_less (hr.mono (by decide)) (by rfl) (pa_cons (pv 7) (pa_cons (pe_tupA (pa_cons pe_int (pa_cons pe_int pa_nil))) pa_nil)))) (pw_or1 (pt_val (pe_fn F_less (hr.mono (by decide)) (by rfl) (pa_cons (pe_tupA (pa_cons pe_int (pa_cons pe_int pa_nil))) (pa_cons (pv 7) pa_nil)))))).pt (pss_one (ps_ret (pe_lstA pa_nil))) pss_nil) (pss_one (ps_ret (pe_lstA (pa_cons (pe_fx0 F_square_of (hr.mono (by decide)) (by rfl) (pa_cons (pe_lstA (pa_cons (pv 0) pa_nil)) (pa_cons (pe_tupA (pa_cons pe_int (pa_cons pe_int pa_nil))) (pa_cons (pv 2) (pa_cons (pv 7) pa_nil))))) pa_nil))))))))))),?_⟩
    have bs : ∀ {a b : Int},bits a ≤ 50 → bits b ≤ 50 → bits (a - b) ≤ 51 := fun h h' => bits_sub h h'
    have cm : ∀ {a b d e : Int},bits a ≤ 50 → bits b ≤ 50 → bits d ≤ 50 → bits e ≤ 50 → CM (a - b) (d - e) := fun h1 h2 h3 h4 => CM.b (bs h1 h2) (bs h3 h4) (by decide) (by decide)
    refine ⟨_,rfl,l,_,_,_,rfl,rfl,SqL.of hl,rfl,_,rfl,l,_,_,_,rfl,rfl,SqL.of hl,rfl,?_⟩
    refine ⟨_,rfl,p2,_,_,_,rfl,rfl,SqT.of hy.1,rfl,_,rfl,p1,_,_,_,rfl,rfl,SqT.of hx.1,rfl,_,_,rfl,rfl,_,rfl,q,_,_,_,rfl,rfl,SqT.of hm.1,rfl,_,rfl,p,_,_,_,rfl,rfl,SqT.of hc.1,rfl,_,_,rfl,rfl,_,_,rfl,rfl,cm hy.2.1 hx.2.1 hm.2.1 hc.2.1,?_⟩
    refine ⟨_,rfl,p2,_,_,_,rfl,rfl,SqT.of hy.1,rfl,_,rfl,p1,_,_,_,rfl,rfl,SqT.of hx.1,rfl,_,_,rfl,rfl,_,rfl,q,_,_,_,rfl,rfl,SqT.of hm.1,rfl,_,rfl,p,_,_,_,rfl,rfl,SqT.of hc.1,rfl,_,_,rfl,rfl,_,_,rfl,rfl,cm hy.2.2 hx.2.2 hm.2.2 hc.2.2,_,_,rfl,rfl,?_⟩
    have hs : evS c m x y = 0 - 2 * ((y.1 - x.1) * (m.1 - c.1) + (y.2 - x.2) * (m.2 - c.2)) := by
      unfold evS
      grind
    have bsl : bits ((y.1 - x.1) * (m.1 - c.1) + (y.2 - x.2) * (m.2 - c.2)) ≤ 103 := bits_le (bits_add (bits_mul (bs hy.2.1 hx.2.1) (bs hm.2.1 hc.2.1)) (bits_mul (bs hy.2.2 hx.2.2) (bs hm.2.2 hc.2.2))) (by decide)
    dsimp only
    generalize (y.1 - x.1) * (m.1 - c.1) + (y.2 - x.2) * (m.2 - c.2) = sl at hs bsl ⊢
    refine ⟨_,rfl,rfl,_,rfl,ite3 (fun c1 => ?_) (fun c1 => ?_)⟩
    · have c1 : sl = 0 := by simpa using c1
      refine ⟨sz (by simp),fun r H1 s1 f1 n1 => k r [] H1 s1 n1 ⟨f1,fun q h => nomatch h⟩ ?_⟩
      unfold evV
      rw [if_pos (.inl (by unfold evP; rw [hs,c1]; rfl))]
      rfl
    have c1 : sl ≠ 0 := by simpa using c1
    refine ⟨_,rfl,_,rfl,p1,q,x,m,rfl,hx,hm,fun r1 H1 s1 e1 => ⟨r1,_,_,_,rfl,rfl,SqT.of e1,rfl,?_⟩⟩
    refine ⟨_,rfl,_,rfl,p1,p,x,c,rfl,hx.mono s1,hc.mono s1,fun r2 H2 s2 e2 => ⟨r2,_,_,_,rfl,rfl,SqT.of e2,rfl,_,_,rfl,rfl,?_⟩⟩
    have S2 := s1.trans s2
    have ho : evT c m x = 0 - (sqI x m - sqI x c) := by
      unfold evT
      rw [sqI_comm c x,sqI_comm m x]
      omega
    have bo : bits (sqI x m - sqI x c) ≤ 104 := bits_sub (sqI_bits hx.2 hm.2) (sqI_bits hx.2 hc.2)
    dsimp only
    generalize sqI x m - sqI x c = off at ho bo ⊢
    have b2 : bits (2 * sl) ≤ 120 := bits_le (bits_mul (show bits 2 ≤ 2 by decide) bsl) (by decide)
    refine ⟨_,rfl,_,rfl,_,_,rfl,rfl,CM.l ⟨by decide,by decide⟩,off,2 * sl,120,rfl,⟨bits_le bo (by decide),b2,by decide⟩,fun z => absurd z (by omega),fun _ rp t u fr bt bu np => ?_⟩
    obtain ⟨hP,eP⟩ := even_ok hs ho c1 fr
    have hu := fr.low.pos
    obtain ⟨n1,n2⟩ := np_lt hu hP eP
    generalize hH3 : upd H2 rp (.tup [.int t,.int u]) = H3
    have s3 : Same H2 H3 := by rw [← hH3]; exact Same.new np
    have e3 : H3 rp = some (.tup [.int t,.int u]) := by rw [← hH3]; exact upd_same
    clear hH3
    have S3 := S2.trans s3
    have bt' : bits t ≤ 2000 ∧ bits u ≤ 2000 := ⟨bits_le bt (by decide),bits_le bu (by decide)⟩
    have none : ∀ {H4 : Hp},Same H H4 → ((evP c m x y).1 < 0 ∨ (evP c m x y).2 < (evP c m x y).1) → (tRet (tLstA tNil)) { nx := fun _ H' => Q .non H',rt := Q } [some (.ref p),some (.ref q),some (.ref l),some (.ref p1),some (.ref p2),some (.int sl),some (.int off),some (.ref rp)] H4 := fun {H4} s4 h => by
      refine ⟨sz (by simp),fun r H5 s5 f5 n5 => k r [] H5 (s4.trans s5) (s4.free n5) ⟨f5,fun q h => nomatch h⟩ ?_⟩
      unfold evV
      rw [if_pos (.inr h)]
      rfl
    refine ⟨_,rfl,sz (by simp),fun z1 H4 s4 f4 _ => ?_⟩
    refine ⟨rp,z1,t,u,0,1,rfl,s4 _ _ e3,f4,⟨bt'.1,bt'.2,by decide,by decide⟩,_,rfl,ite3 (fun c2 => ?_) (fun c2 => ?_)⟩
    · have c2 : t * 1 < 0 * u := dec_t c2
      exact none (S3.trans s4) (.inl (n1.mp (by omega)))
    have c2 : ¬ t * 1 < 0 * u := dec_f c2
    refine ⟨sz (by simp),fun z2 H5 s5 f5 _ => ?_⟩
    refine ⟨_,rfl,z2,rp,1,1,t,u,rfl,f5,s5 _ _ (s4 _ _ e3),⟨by decide,by decide,bt'.1,bt'.2⟩,_,rfl,ite3 (fun c3 => ?_) (fun c3 => ?_)⟩
    · have c3 : 1 * u < t * 1 := dec_t c3
      exact none (S3.trans (s4.trans s5)) (.inr (n2.mp (by omega)))
    have c3 : ¬ 1 * u < t * 1 := dec_f c3
    refine ⟨_,rfl,sz (by simp),fun l1 H6 s6 f6 _ => ?_⟩
    refine ⟨sz (by simp),fun z3 H7 s7 f7 _ => ?_⟩
    have S7 := S3.trans (s4.trans (s5.trans (s6.trans s7)))
    have P1 : Plc H7 z3 0 1 (lst_ [(p,c)]) := pl01 f7 (by unfold lst_; simp)
    have P2 : Plc H7 rp t u (lst_ [(p1,x),(p2,y)]) := ⟨s7 _ _ (s6 _ _ (s5 _ _ (s4 _ _ e3))),fr.low,by omega,by unfold lst_; simp; omega,bits_le bt (by decide),bits_le bu (by decide)⟩
    refine ⟨_,rfl,_,rfl,l1,l,[(p,c)],[(p1,x),(p2,y)],_,_,rfl,line1 (s7 _ _ f6) (hc.mono S7),line2 (S7 _ _ hl) (hx.mono S7) (hy.mono S7),⟨by simp,by simp⟩,⟨by simp,by simp⟩,P1.th,P2.th,.inr ⟨z3,0,1,rfl,P1,.inr ⟨rp,t,u,rfl,P2,fun r s w H8 fr8 f8 s8 => ?_⟩⟩⟩
    have fv := even_val hu (by omega) (by omega) hP eP fr8
    have hD : 0 < (evF c x y (evP c m x y)).2 := Int.mul_pos hP hP
    have bd := evF_bits hc.2 hx.2 hy.2 (evP_bits hc.2 hm.2 hx.2 hy.2)
    have bd2 := frac_bits hD fv bd.1 bd.2
    refine ⟨sz (by simp),fun rr H9 s9 f9 n9 => k rr [(r,s,w)] H9 (S7.trans (s8.trans s9)) ((S7.trans s8).free n9) ⟨f9,fun z hz => ?_⟩ ?_⟩
    · rw [List.mem_singleton.mp hz]
      exact ⟨s9 _ _ f8.at_,f8.low,bits_le bd2.1 (by decide),bits_le bd2.2 (by decide)⟩
    · unfold evV
      rw [if_neg (by rintro (z | z | z)
                     · omega
                     · exact absurd (n1.mpr z) (by omega)
                     · exact absurd (n2.mpr z) (by omega)),← lowF_of hD fv]
      rfl
def Frq (H : Hp) (q : Addr × Int × Int) : Prop := H q.1 = some (.tup [.int q.2.1,.int q.2.2]) ∧ Low q.2.1 q.2.2 ∧ bits q.2.1 ≤ 2000 ∧ bits q.2.2 ≤ 2000
theorem frl_lift {H : Hp} : ∀ (ys : List V) (vs : List (Int × Int)),ys.length = vs.length → (∀ (i : Nat) y,ys[i]? = some y → ∃ q : Addr × Int × Int,y = .ref q.1 ∧ vs[i]? = some q.2 ∧ Frq H q) → ∃ fs : Crn,ys = fs.map (fun (q : Addr × Int × Int) => V.ref q.1) ∧ (∀ q ∈ fs,Frq H q) ∧ fs.map (·.2) = vs
  | [],[],_,_ => ⟨[],rfl,(fun q h => nomatch h),rfl⟩
  | y :: ys,v :: vs,hl,h => by
    obtain ⟨fs,e1,e2,e3⟩ := frl_lift ys vs (by simpa using hl) fun i z hz => h (i + 1) z (by simpa using hz)
    obtain ⟨q,rfl,q2,q3⟩ := h 0 y rfl
    refine ⟨q :: fs,by rw [e1]; rfl,fun z hz => ?_,?_⟩
    · rcases List.mem_cons.mp hz with rfl | hz
      · exact q3
      · exact e2 z hz
    · rw [List.map_cons,e3,← Option.some.inj q2]
  | [],_ :: _,hl,_ => by cases hl
  | _ :: _,[],hl,_ => by cases hl
def evN (cs : List (Int × Int)) (c x y : Int × Int) (j : Nat) : List (Int × Int) := (cs.take j).flatMap fun m => evV c m x y
theorem evN_succ {cs : List (Int × Int)} {c m x y : Int × Int} {j : Nat} (h : cs[j]? = some m) : evN cs c x y (j + 1) = evN cs c x y j ++ evV c m x y := by
  unfold evN
  rw [List.take_succ,h,List.flatMap_append]
  simp
def alN (cs : List (Int × Int)) (x y : Int × Int) (i : Nat) : List (Int × Int) := (List.range i).flatMap fun k => leV (cs.getD k (0,0)) x y :: evN cs (cs.getD k (0,0)) x y k
theorem alN_succ {cs : List (Int × Int)} {c x y : Int × Int} {i : Nat} (h : cs[i]? = some c) : alN cs x y (i + 1) = alN cs x y i ++ (leV c x y :: evN cs c x y i) := by
  have e : cs.getD i (0,0) = c := by rw [List.getD_eq_getElem?_getD,h]; rfl
  unfold alN
  rw [List.range_succ,List.flatMap_append,List.flatMap_singleton,e]
theorem evV_len (c m x y : Int × Int) : (evV c m x y).length ≤ 1 := by
  unfold evV
  split <;> simp
theorem evN_len (cs : List (Int × Int)) (c x y : Int × Int) : ∀ j,(evN cs c x y j).length ≤ j
  | 0 => by simp [evN]
  | j + 1 => by
    have ih := evN_len cs c x y j
    cases h : cs[j]? with
    | none =>
      have e : evN cs c x y (j + 1) = evN cs c x y j := by
        unfold evN
        rw [List.take_succ,h]
        simp
      rw [e]
      omega
    | some m =>
      rw [evN_succ h,List.length_append]
      have := evV_len c m x y
      omega
theorem alN_len (cs : List (Int × Int)) (x y : Int × Int) : ∀ i,(alN cs x y i).length ≤ i * i
  | 0 => by simp [alN]
  | i + 1 => by
    have ih := alN_len cs x y i
    have e : alN cs x y (i + 1) = alN cs x y i ++ (leV (cs.getD i (0,0)) x y :: evN cs (cs.getD i (0,0)) x y i) := by
      unfold alN
      rw [List.range_succ,List.flatMap_append,List.flatMap_singleton]
    rw [e,List.length_append,List.length_cons]
    have := evN_len cs (cs.getD i (0,0)) x y i
    have h2 : (i + 1) * (i + 1) = i * i + 2 * i + 1 := by grind
    omega
def crs (qs : Crn) : List (Int × Int) := qs.map (·.2)
theorem crs_at {qs : Crn} {i : Nat} {u : Addr × Int × Int} (h : qs[i]? = some u) : (crs qs)[i]? = some u.2 := by
  unfold crs
  rw [List.getElem?_map,h]
  rfl
theorem _root_.Sp2.LineAt.cn {H : Hp} {l : Addr} {qs : Crn} (L : LineAt H l qs) {u : Addr × Int × Int} {i : Nat} (h : qs[i]? = some u) : Cn H u.1 u.2 := ⟨(L.crn u (List.mem_of_getElem? h)).1,(L.crn u (List.mem_of_getElem? h)).2⟩
theorem cut_take {xs : List V} {n : Nat} (h : n ≤ xs.length) : cutV xs none (some (n : Int)) = xs.take n := by
  unfold cutV
  rw [HT.sIx_nat,HT.sIx_none,Nat.min_eq_left h]
  simp
theorem cut_drop1 (xs : List V) (h : 1 ≤ xs.length) : cutV xs (some 1) none = xs.drop 1 := by
  unfold cutV
  rw [show (1 : Int) = ((1 : Nat) : Int) from rfl,HT.sIx_nat,HT.sIx_none,Nat.min_eq_left h]
  exact List.take_of_length_le (by rw [List.length_drop]; exact Nat.le_refl _)
def spBes : Sp := fun vs H Q _ => ∃ (lc l p1 p2 : Addr) (qs : Crn) (x y : Int × Int),vs = [.ref lc,.ref l] ∧ LineAt H lc qs ∧ qs.length ≤ 20 ∧ H l = some (.lst [.ref p1,.ref p2]) ∧ Cn H p1 x ∧ Cn H p2 y ∧ ∀ (r : Addr) (fs : Crn) H',Same H H' → H r = none → FrL H' r fs → fs.map (·.2) = alN (crs qs) x y qs.length → Q (.ref r) H'
theorem FrL.len {H : Hp} {l : Addr} {fs : Crn} {vs : List (Int × Int)} (_ : FrL H l fs) (e : fs.map (·.2) = vs) : (fs.map fun (q : Addr × Int × Int) => V.ref q.1).length = vs.length := by
  rw [← e,List.length_map,List.length_map]
theorem S_squares_beside : FnScope ["corners","stretch","squares","number","corner","mate"] ["corners","stretch"] (defScope (top 34)) := ⟨rfl,rfl,rfl,by decide +kernel,rfl,by decide +kernel,by decide +kernel⟩
theorem fn_squares_beside (D_squares_beside : Df K mg "squares_beside" (top 34)) (F_least_beside : Fn P w K mg base "least_beside" ["corner","stretch"] 7 spLeB) (F_even_squares : Fn P w K mg base "even_squares" ["corner","mate","stretch"] 8 spEvn) (T : Txt mg) : Fn P w K mg base "squares_beside" ["corners","stretch"] 9 spBes := by
  refine D_squares_beside.fn S_squares_beside (fun _ _ _ _ _ _ us hl => by obtain ⟨_,_,rfl⟩ := len2 hl; rfl) (fun vs H Q E h => ?_) (fun f cdv A outer s H vs Q E hr h => ?_)
  · obtain ⟨lc,l,p1,p2,qs,x,y,rfl,_⟩ := h
    rfl
  · obtain ⟨lc,l,p1,p2,qs,x,y,rfl,L,hq,hl,hx,hy,k⟩ := h
    refine ⟨_,(pss_cons (ps_set (i := 2) S_squares_beside.nd rfl (Or.inl rfl) (pe_lstA pa_nil)) (pss_cons (ps_for PassesOwn.never rfl (pi_enum rfl T.z_enumerate (pa_cons (pv 0) pa_nil)) (pg_tup rfl (pgs_cons (pg_name (i := 3) S_squares_beside.nd rfl (Or.inl rfl)) (pgs_cons (pg_name (i := 4) S_squares_beside.nd rfl (Or.inl rfl)) pgs_nil))) (pss_cons (ps_expr (pe_bm PySem.F.plainAttrs_list PySem.F.slot_list_append PySem.F.type_list_append mt_appendA (pv 2) (pa_cons (pe_fn F_least_beside (hr.mono (by decide)) (by rfl) (pa_cons (pv 4) (pa_cons (pv 1) pa_nil))) pa_nil))) (pss_one (ps_for PassesOwn.never rfl (pi_list (pe_slice sl_listA (pv 0) po_none (po_some (pv 3)))) (pg_name (i := 5) S_squares_beside.nd rfl (Or.inl rfl)) (pss_one (ps_expr (pe_bm PySem.F.plainAttrs_list PySem.F.slot_list_extend PySem.F.type_list_extend mt_extendA (pv 2) (pa_cons (pe_fn F_even_squares (hr.mono (by decide)) (by rfl) (pa_cons (pv 4) (pa_cons (pv 5) (pa_cons (pv 1) pa_nil)))) pa_nil)))))))) (pss_one (ps_ret (pv 2))))),?_⟩
    have hll : (qs.map fun (q : Addr × Int × Int) => V.ref q.1).length = qs.length := List.length_map _
    refine ⟨sz (by simp),fun r H1 s1 f1 n1 => ?_⟩
    refine ⟨_,rfl,lc,rfl,⟨_,SqL.of (s1 _ _ L.lst)⟩,for_enum (K := K) (a := lc) (xs := qs.map fun (q : Addr × Int × Int) => V.ref q.1) (fun i σ H' => ∃ (z3 z4 z5 : Option V) (fs : Crn),σ = [some (.ref lc),some (.ref l),some (.ref r),z3,z4,z5] ∧ Same H H' ∧ FrL H' r fs ∧ fs.map (·.2) = alN (crs qs) x y i)
      ⟨_,_,_,[],rfl,s1,⟨f1,fun q h => nomatch h⟩,rfl⟩ (fun i σ H' _ ⟨_,_,_,_,_,s',_⟩ => SqL.of (s' _ _ L.lst)) ?_ ?_⟩
    · rintro i v pp σ H2 H3 hv ⟨z3,z4,z5,fs,rfl,s2,F2,e2⟩ s3 f3
      rw [List.getElem?_map] at hv
      obtain ⟨u,hu,rfl⟩ := Option.map_eq_some_iff.mp hv
      have iu := (List.getElem?_eq_some_iff.mp hu).1
      have S3 := s2.trans s3
      have F3 := F2.mono s3
      have sizes : ∀ {k : Nat},k ≤ 421 → k ≤ sizeLine := fun h => sz (by omega)
      have al : (alN (crs qs) x y i).length ≤ 400 := Nat.le_trans (alN_len _ _ _ i) (Nat.mul_le_mul (show i ≤ 20 by omega) (show i ≤ 20 by omega))
      refine ⟨pp,_,rfl,SqT.of f3,rfl,_,_,rfl,_,_,rfl,rfl,?_⟩
      refine ⟨_,rfl,.inl ⟨rfl,_,SqL.of F3.lst⟩,_,rfl,_,rfl,u.1,l,p1,p2,u.2,x,y,rfl,(L.cn hu).mono S3,S3 _ _ hl,hx.mono S3,hy.mono S3,fun rr s w H4 s4 f4 e4 => ?_⟩
      have F4 := F3.mono s4
      refine ⟨r,_,_,rfl,rfl,F4.lst,Nat.lt_of_lt_of_le (by rw [F4.len e2]; omega) (sizes (Nat.le_refl 421)),fun H5 u5 => ?_⟩
      have F5 := F4.cat (gs := [(rr,s,w)]) (fun q hq => by rw [List.mem_singleton.mp hq]; exact ⟨f4.at_,f4.low,bits_le f4.ba (by decide),bits_le f4.bb (by decide)⟩) u5
      have S5 : Same H H5 := u5.same (S3.trans s4) n1
      have L5 := L.mono S5
      refine ⟨_,rfl,_,rfl,_,rfl,lc,_,rfl,SqL.of L5.lst,fun ps H6 s6 f6 n6 => ?_⟩
      rw [cut_take (by rw [hll]; omega),← List.map_take] at f6
      have ne : ps ≠ r := (ne_of_none F5.lst n6).symm
      refine ⟨ps,rfl,⟨_,SqL.of f6⟩,for_list (K := K) (a := ps) (xs := (qs.take i).map fun (q : Addr × Int × Int) => V.ref q.1) (fun j σ H' => ∃ (z5 : Option V) (fs : Crn),σ = [some (.ref lc),some (.ref l),some (.ref r),some (.int (i : Int)),some (.ref u.1),z5] ∧ Same H H' ∧ H' ps = some (.lst ((qs.take i).map fun (q : Addr × Int × Int) => V.ref q.1)) ∧ FrL H' r fs ∧ fs.map (·.2) = alN (crs qs) x y i ++ (leV u.2 x y :: evN (crs qs) u.2 x y j))
        ⟨_,_,rfl,S5.trans s6,f6,F5.mono s6,?_⟩ (fun j σ H' _ ⟨_,_,_,_,e,_⟩ => SqL.of e) ?_ ?_⟩
      · rw [List.map_append,e2,← e4]
        rfl
      · rintro j v σ H7 hv ⟨z5,gs,rfl,s7,f7,F7,e7⟩
        rw [List.getElem?_map] at hv
        obtain ⟨m,hm,rfl⟩ := Option.map_eq_some_iff.mp hv
        have jm := (List.getElem?_eq_some_iff.mp hm).1
        rw [List.length_take] at jm
        rw [List.getElem?_take_of_lt (by omega)] at hm
        refine ⟨_,rfl,.inl ⟨rfl,_,SqL.of F7.lst⟩,_,rfl,_,rfl,_,rfl,u.1,m.1,l,p1,p2,u.2,m.2,x,y,rfl,(L.cn hu).mono s7,(L.cn hm).mono s7,s7 _ _ hl,hx.mono s7,hy.mono s7,fun r8 hs H8 s8 n8 G8 e8 => ?_⟩
        have F8 := F7.mono s8
        have el := F8.len e7
        rw [List.length_append,List.length_cons] at el
        have h1 := evN_len (crs qs) u.2 x y j
        have h2 := evV_len u.2 m.2 x y
        refine ⟨r,r8,_,_,rfl,rfl,F8.lst,G8.lst,sizes (by rw [el,G8.len e8]; omega),fun H9 u9 => ?_⟩
        refine ⟨_,_,rfl,u9.same (s7.trans s8) n1,u9.at ne (s8 _ _ f7),F8.cat G8.fr u9,?_⟩
        rw [List.map_append,e7,e8,evN_succ (crs_at hm),List.append_assoc]
        rfl
      · rintro σ H7 ⟨z5,gs,rfl,s7,f7,F7,e7⟩
        refine ⟨_,_,_,gs,rfl,s7,F7,?_⟩
        rw [e7,alN_succ (crs_at hu),List.length_map,List.length_take,Nat.min_eq_left (by omega)]
    · rintro σ H2 ⟨z3,z4,z5,fs,rfl,s2,F2,e2⟩
      rw [hll] at e2
      exact ⟨_,rfl,k r fs H2 s2 n1 F2 e2⟩
theorem comp_zipL {K : PySem.W.Frag} {a b : Addr} {xs ys : List V} {fv : List (Str × Nat)} {te : TE} {σ : St} {H1 : Hp} {Q : VK} {g : TG} {k : Nat} (q1 : SqL K H1 a xs) (q2 : SqL K H1 b ys) (hlen : min xs.length ys.length < 1000) (R : Addr → Nat → V → Hp → Prop) (hR : ∀ l i v H H',(∀ b o,b ≠ l → H b = some o → H' b = some o) → R l i v H → R l i v H')
    (hs : ∀ l i x y p H2 (τ : St) (Kc : VK),xs[i]? = some x → ys[i]? = some y → Same H1 H2 → H1 l = none → H2 l ≠ none → H2 p = some (.tup [x,y]) → τ.length = k → (∀ y H4,Same H2 H4 → R l i y H4 → Kc y H4) → g (.ref p) (τ ++ fvs fv σ) H2 fun σ2 H4 => (∃ τ' : St,τ'.length = k ∧ σ2 = τ' ++ fvs fv σ) ∧ te σ2 H4 Kc)
    (hd : ∀ l zs H',H1 l = none → Same H1 H' → H' l = some (.lst zs) → zs.length = min xs.length ys.length → (∀ i y,zs[i]? = some y → R l i y H') → Q (.ref l) H') :
    CompAtG (Itz K a b) k fv g tYes te σ H1 Q := by
  intro l hl
  refine ⟨fun i m acc H2 => m = min xs.length ys.length - i ∧ i ≤ min xs.length ys.length ∧ acc.length = i ∧ Same H1 H2 ∧ H2 l = some (.lst acc) ∧ ∀ j y,acc[j]? = some y → R l j y H2,⟨_,rfl,Nat.zero_le _,rfl,Same.new hl,upd_same,fun j y h => by simp at h⟩,?_⟩
  rintro i m acc H2 ⟨rfl,hi,e1,sm,e3,hr⟩
  refine ⟨e3,small1000 (by omega),?_⟩
  by_cases hlt : i < min xs.length ys.length
  · have h1 : i < xs.length := by omega
    have h2 : i < ys.length := by omega
    refine .inr ⟨⟨xs,ys,xs[i],ys[i],sm.seq q1,sm.seq q2,by simp [h1],by simp [h2]⟩,fun x H3 y τ hτ => ?_⟩
    obtain ⟨p,u,v,rfl,np,rfl,e⟩ := y
    obtain ⟨x1,x2⟩ := e xs ys (sm.seq q1) (sm.seq q2)
    have s3 : Same H2 (upd H2 p (.tup [u,v])) := Same.new np
    refine hs l i u v p _ τ _ x1 x2 (sm.trans s3) hl (by rw [s3 _ _ e3]; exact fun z => nomatch z) upd_same hτ fun y H4 s4 ry => ⟨s4 _ _ (s3 _ _ e3),_,by omega,rfl,hlt,by simp [e1],(sm.trans (s3.trans s4)).upd hl,upd_same,fun j z hz => ?_⟩
    have t4 : ∀ b o,b ≠ l → H4 b = some o → upd H4 l (.lst (acc ++ [y])) b = some o := fun b o n q => by rw [upd_ne n]; exact q
    rcases Nat.lt_trichotomy j acc.length with h | h | h
    · rw [List.getElem?_append_left h] at hz
      exact hR _ _ _ _ _ (fun b o n q => t4 b o n (s4 _ _ (s3 _ _ q))) (hr j z hz)
    · subst h
      rw [List.getElem?_append_right (Nat.le_refl _),Nat.sub_self] at hz
      cases hz
      rw [e1]
      exact hR _ _ _ _ _ t4 ry
    · rw [List.getElem?_eq_none (by simp; omega)] at hz
      cases hz
  · have e : i = min xs.length ys.length := by omega
    subst e
    exact .inl ⟨⟨xs,ys,sm.seq q1,sm.seq q2,rfl⟩,hd l acc H2 hl sm e3 e1 hr⟩
theorem refs_lift {P : Nat → Addr → Prop} : ∀ (zs : List V) (_ : ∀ (i : Nat) y,zs[i]? = some y → ∃ p : Addr,y = .ref p ∧ P i p),∃ ls : List Addr,zs = ls.map V.ref ∧ ∀ (i : Nat) a,ls[i]? = some a → P i a := by
  intro zs
  induction zs generalizing P with
  | nil => exact fun _ => ⟨[],rfl,fun i a h => by simp at h⟩
  | cons z zs ih =>
    intro h
    obtain ⟨ls,e1,e2⟩ := ih (P := fun i => P (i + 1)) fun i y hy => h (i + 1) y (by simpa using hy)
    obtain ⟨p,rfl,hp⟩ := h 0 z rfl
    refine ⟨p :: ls,by rw [e1]; rfl,fun i a ha => ?_⟩
    cases i with
    | zero =>
      simp at ha
      rw [← ha]
      exact hp
    | succ i => exact e2 i a (by simpa using ha)
structure StL (H0 H : Hp) (r : Addr) (ls : List Addr) (qs : Crn) : Prop where
  lst : H r = some (.lst (ls.map V.ref))
  len : ls.length = qs.length - 1
  at_ : ∀ (i : Nat) a,ls[i]? = some a → H0 a = none ∧ ∃ u v,qs[i]? = some u ∧ qs[i + 1]? = some v ∧ H a = some (.lst [.ref u.1,.ref v.1])
def spStr : Sp := fun vs H Q _ => ∃ (l : Addr) (qs : Crn),vs = [.ref l] ∧ LineAt H l qs ∧ (1 ≤ qs.length ∧ qs.length ≤ 20) ∧ ∀ (r : Addr) (ls : List Addr) H',Same H H' → H r = none → StL H H' r ls qs → Q (.ref r) H'
theorem S_stretches_of : FnScope ["line"] ["line"] (defScope (top 35)) := ⟨rfl,rfl,rfl,by decide +kernel,rfl,by decide +kernel,by decide +kernel⟩
theorem fn_stretches_of (D_stretches_of : Df K mg "stretches_of" (top 35)) (T : Txt mg) : Fn P w K mg base "stretches_of" ["line"] 2 spStr := by
  refine D_stretches_of.fn S_stretches_of (fun _ _ _ _ _ _ us hl => by obtain ⟨_,rfl⟩ := len1 hl; rfl) (fun vs H Q E h => ?_) (fun f cdv A outer s H vs Q E hr h => ?_)
  · obtain ⟨l,qs,rfl,_⟩ := h
    rfl
  · obtain ⟨l,qs,rfl,L,⟨h1,h20⟩,k⟩ := h
    have CN : CompM (cxOf CX0 P w K mg base ["line"] "stretches_of" (defScope (top 35)) f cdv A outer s H E).nox (Sp7.retScope ((defBody (top 35)).getD 0 (.Pass ⟨0,0,0,0⟩))) [] ["begin","end"] [] :=
      ⟨by rfl,rfl,by decide +kernel,by decide +kernel,(fun x hx => by simp only [List.mem_cons,List.not_mem_nil,or_false] at hx; rcases hx with rfl | rfl <;> rfl),(fun p hp => nomatch hp),by rfl,by decide +kernel,(fun p hp => nomatch hp),⟨rfl,rfl⟩,rfl⟩
    refine ⟨_,(pss_one (ps_ret (pe_compG rfl CN (pi_zip rfl T.z_zip (pa_cons (pv 0) (pa_cons (pe_slice sl_listA (pv 0) (po_some pe_int) po_none) pa_nil))) (fun fp s₀ H₀ => (pg_tupK (K := K) (n := 2) rfl rfl (pgs_cons (pg_name (i := 0) CN.nd rfl (Or.inl rfl) (Or.inr rfl)) (pgs_cons (pg_name (i := 1) CN.nd rfl (Or.inl rfl) (Or.inr rfl)) pgs_nil)))) (fun fp s₀ H₀ => pts_nil) (fun fp s₀ H₀ => (pe_lstA (pa_cons (pv 0) (pa_cons (pv 1) pa_nil))))))),?_⟩
    have hll : (qs.map fun (q : Addr × Int × Int) => V.ref q.1).length = qs.length := List.length_map _
    refine ⟨_,rfl,_,rfl,_,rfl,l,_,rfl,SqL.of L.lst,fun l2 H1 s1 f1 n1 => ?_⟩
    rw [cut_drop1 _ (by rw [hll]; exact h1)] at f1
    have L1 := L.mono s1
    have lmin : min (qs.map fun (q : Addr × Int × Int) => V.ref q.1).length ((qs.map fun (q : Addr × Int × Int) => V.ref q.1).drop 1).length = qs.length - 1 := by rw [List.length_drop,hll]; omega
    refine ⟨l,l2,rfl,⟨_,SqL.of L1.lst⟩,⟨_,SqL.of f1⟩,comp_zipL (K := K) (k := 2) (SqL.of L1.lst) (SqL.of f1) (by rw [lmin]; omega) (fun r i v H' => ∃ (p : Addr) (u w : Addr × Int × Int),v = .ref p ∧ p ≠ r ∧ H p = none ∧ qs[i]? = some u ∧ qs[i + 1]? = some w ∧ H' p = some (.lst [.ref u.1,.ref w.1]))
      (fun r i v H H' kp ⟨p,u,w,e1,e2,e3,e4,e5,e6⟩ => ⟨p,u,w,e1,e2,e3,e4,e5,kp p _ e2 e6⟩) ?_ ?_⟩
    · intro r i x y p H2 τ Kc hx hy s2 nr hr ep hτ kk
      obtain ⟨τ0,τ1,rfl⟩ : ∃ τ0 τ1,τ = [τ0,τ1] := by
        match τ,hτ with
        | [a,b],_ => exact ⟨a,b,rfl⟩
      rw [List.getElem?_map] at hx
      obtain ⟨u,hu,rfl⟩ := Option.map_eq_some_iff.mp hx
      rw [List.getElem?_drop,List.getElem?_map] at hy
      obtain ⟨v,hv,rfl⟩ := Option.map_eq_some_iff.mp hy
      rw [Nat.add_comm] at hv
      refine ⟨p,_,rfl,SqT.of ep,rfl,_,_,rfl,_,_,rfl,rfl,⟨[some (.ref u.1),some (.ref v.1)],rfl,rfl⟩,?_⟩
      refine ⟨_,rfl,_,rfl,sz (by simp),fun q H4 s4 f4 n4 => kk _ H4 s4 ⟨q,u,v,rfl,fun z => hr (by rw [← z]; exact n4),(s1.trans s2).free n4,hu,hv,f4⟩⟩
    · intro r zs H2 nr s2 f2 hl hr
      obtain ⟨ls,rfl,h2⟩ := refs_lift (P := fun i p => p ≠ r ∧ H p = none ∧ ∃ u w : Addr × Int × Int,qs[i]? = some u ∧ qs[i + 1]? = some w ∧ H2 p = some (.lst [.ref u.1,.ref w.1])) zs fun i y hy => by
        obtain ⟨p,u,w,e1,e2,e3,e4,e5,e6⟩ := hr i y hy
        exact ⟨p,e1,e2,e3,u,w,e4,e5,e6⟩
      rw [List.length_map,lmin] at hl
      exact k r ls H2 (s1.trans s2) (s1.free nr) ⟨f2,hl,fun i a ha => (h2 i a ha).2⟩
def extScope (s : Stmt) : Scope := match s with
  | .Expr e _ => retScopeAll e
  | _ => { kind := .function,names := [],isGenerator := false,isCoroutine := false }
def prN (cs ds : List (Int × Int)) (i : Nat) : List (Int × Int) := (cs.take i).flatMap fun c => ds.map fun d => (sqI c d,1)
theorem prN_succ {cs ds : List (Int × Int)} {c : Int × Int} {i : Nat} (h : cs[i]? = some c) : prN cs ds (i + 1) = prN cs ds i ++ ds.map fun d => (sqI c d,1) := by
  unfold prN
  rw [List.take_succ,h,List.flatMap_append]
  simp
theorem prN_len (cs ds : List (Int × Int)) : ∀ i,(prN cs ds i).length ≤ i * ds.length
  | 0 => by simp [prN]
  | i + 1 => by
    have ih := prN_len cs ds i
    rw [Nat.succ_mul]
    cases h : cs[i]? with
    | none =>
      have e : prN cs ds (i + 1) = prN cs ds i := by
        unfold prN
        rw [List.take_succ,h]
        simp
      rw [e]
      omega
    | some c =>
      rw [prN_succ h,List.length_append,List.length_map]
      omega
def stN (ds cs : List (Int × Int)) (k : Nat) : List (Int × Int) := (List.range k).flatMap fun i => alN cs (ds.getD i (0,0)) (ds.getD (i + 1) (0,0)) cs.length
theorem stN_succ {ds cs : List (Int × Int)} {x y : Int × Int} {k : Nat} (h : ds[k]? = some x) (h' : ds[k + 1]? = some y) : stN ds cs (k + 1) = stN ds cs k ++ alN cs x y cs.length := by
  have e : ds.getD k (0,0) = x := by rw [List.getD_eq_getElem?_getD,h]; rfl
  have e' : ds.getD (k + 1) (0,0) = y := by rw [List.getD_eq_getElem?_getD,h']; rfl
  unfold stN
  rw [List.range_succ,List.flatMap_append,List.flatMap_singleton,e,e']
theorem stN_len (ds cs : List (Int × Int)) : ∀ k,(stN ds cs k).length ≤ k * (cs.length * cs.length)
  | 0 => by simp [stN]
  | k + 1 => by
    have ih := stN_len ds cs k
    rw [Nat.succ_mul]
    unfold stN at ih ⊢
    rw [List.range_succ,List.flatMap_append,List.flatMap_singleton,List.length_append]
    have := alN_len cs (ds.getD k (0,0)) (ds.getD (k + 1) (0,0)) cs.length
    omega
def cdV (cs ds : List (Int × Int)) : List (Int × Int) := prN cs ds cs.length ++ stN ds cs (ds.length - 1) ++ stN cs ds (cs.length - 1)
def SameN (H H' : Hp) : Prop := ∀ b o,H b = some o → (∀ ps,o ≠ .tbl ps) → H' b = some o
theorem SameN.t {H H' : Hp} (s : SameN H H') {b : Addr} {xs : List V} (e : H b = some (.tup xs)) : H' b = some (.tup xs) := s b _ e fun ps q => by cases q
theorem SameN.l {H H' : Hp} (s : SameN H H') {b : Addr} {xs : List V} (e : H b = some (.lst xs)) : H' b = some (.lst xs) := s b _ e fun ps q => by cases q
theorem SameN.of {H H' : Hp} (s : Same H H') : SameN H H' := fun b o e _ => s b o e
theorem SameN.trans {H H1 H2 : Hp} (a : SameN H H1) (b : SameN H1 H2) : SameN H H2 := fun c o e n => b c o (a c o e n) n
theorem SameN.line {H H' : Hp} (s : SameN H H') {l : Addr} {qs : Crn} (L : LineAt H l qs) : LineAt H' l qs := ⟨s.l L.lst,fun q hq => ⟨s.t (L.crn q hq).1,(L.crn q hq).2⟩⟩
theorem crs_len (qs : Crn) : (crs qs).length = qs.length := List.length_map _
def spCand (t : Addr) : Sp := fun vs H Q _ => ∃ (l1 l2 : Addr) (qs rs : Crn),vs = [.ref l1,.ref l2] ∧ Tab H t lsP ∧ (LineAt H l1 qs ∧ 1 ≤ qs.length ∧ qs.length ≤ 6) ∧ (LineAt H l2 rs ∧ 1 ≤ rs.length ∧ rs.length ≤ 6) ∧
  ∀ (r : Addr) (fs : Crn) H',SameN H H' → Tab H' t lsP → H r = none → Ris H' r fs → fs.length ≤ 800 → (∀ v : Int × Int,v ∈ fs.map (·.2) ↔ v ∈ cdV (crs qs) (crs rs)) → Q (.ref r) H'
structure Gr (H0 H : Hp) (r : Addr) (vs : List (Int × Int)) : Prop where
  but : But r H0 H
  ex : ∃ fs,FrL H r fs ∧ fs.map (·.2) = vs
theorem Gr.step {H0 H H1 H2 : Hp} {r r2 : Addr} {vs ws : List (Int × Int)} {gs : Crn} {fs : Crn} (b : But r H0 H) (F : FrL H r fs) (e : fs.map (·.2) = vs) (s : Same H H1) (G : FrL H1 r2 gs) (e2 : gs.map (·.2) = ws) (u : Upd H1 H2 r (fs.map fun (q : Addr × Int × Int) => V.ref q.1) ((fs.map fun (q : Addr × Int × Int) => V.ref q.1) ++ gs.map fun (q : Addr × Int × Int) => V.ref q.1)) : Gr H0 H2 r (vs ++ ws) :=
  ⟨fun c o n z => u.at n (s _ _ (b c o n z)),fs ++ gs,(F.mono s).cat G.fr u,by rw [List.map_append,e,e2]⟩
theorem S_candidates : FnScope ["one","other","squares","corner","stretch","rising","square"] ["one","other"] (defScope (top 36)) := ⟨rfl,rfl,rfl,by decide +kernel,rfl,by decide +kernel,by decide +kernel⟩
theorem fn_candidates {t_put_in : Addr} (D_candidates : Df K mg "candidates" (top 36)) (F_square_apart : Fn P w K mg base "square_apart" ["corner","beside"] 7 spApt) (F_stretches_of : Fn P w K mg base "stretches_of" ["line"] 2 spStr) (F_squares_beside : Fn P w K mg base "squares_beside" ["corners","stretch"] 9 spBes) (F_put_in : Fn P w K mg base "put_in" ["rising","square"] 6 (spPut t_put_in)) (T : Txt mg) : Fn P w K mg base "candidates" ["one","other"] 10 (spCand t_put_in) := by
  refine D_candidates.fn S_candidates (fun _ _ _ _ _ _ us hl => by obtain ⟨_,_,rfl⟩ := len2 hl; rfl) (fun vs H Q E h => ?_) (fun f cdv A outer s H vs Q E hr h => ?_)
  · obtain ⟨l1,l2,qs,rs,rfl,_⟩ := h
    rfl
  · obtain ⟨l1,l2,qs,rs,rfl,tb,⟨L1,a1,a6⟩,⟨L2,b1,b6⟩,k⟩ := h
    have CN : CompN (cxOf CX0 P w K mg base ["one","other","squares","corner","stretch","rising","square"] "candidates" (defScope (top 36)) f cdv A outer s H E).nox (extScope ((forBody ((defBody (top 36)).getD 1 (.Pass ⟨0,0,0,0⟩))).getD 0 (.Pass ⟨0,0,0,0⟩))) [("corner",s.heap.objs.size + 1)] "beside" [("corner",3)] :=
      ⟨by rfl,rfl,by decide +kernel,by decide +kernel,rfl,(fun p hp => by simp only [List.mem_cons,List.not_mem_nil,or_false] at hp; subst hp; rfl),by rfl,by decide +kernel,(fun p hp => by simp only [List.mem_cons,List.not_mem_nil,or_false] at hp; subst hp; exact ⟨rfl,rfl,.inr (.inl rfl),rfl,rfl⟩),⟨rfl,rfl⟩,rfl⟩
    refine ⟨_,(pss_cons (ps_set (i := 2) S_candidates.nd rfl (Or.inl rfl) (pe_lstA pa_nil)) (pss_cons (ps_for PassesOwn.never rfl (pi_list (pv 0)) (pg_name (i := 3) S_candidates.nd rfl (Or.inr rfl)) (pss_one (ps_expr (pe_bm PySem.F.plainAttrs_list PySem.F.slot_list_extend PySem.F.type_list_extend mt_extendA (pv 2) (pa_cons (pe_compA rfl CN (pi_list (pv 1)) (fun fp s₀ H₀ => (pe_fn F_square_apart (hr.mono (by decide)) (by rfl) (pa_cons (pv 1) (pa_cons (pv 0) pa_nil))))) pa_nil))))) (pss_cons (ps_for PassesOwn.never rfl (pi_list (pe_fn F_stretches_of (hr.mono (by decide)) (by rfl) (pa_cons (pv 1) pa_nil))) (pg_name (i := 4) S_candidates.nd rfl (Or.inl rfl)) (pss_one (ps_expr (pe_bm PySem.F.plainAttrs_list PySem.F.slot_list_extend PySem.F.type_list_extend mt_extendA (pv 2) (pa_cons (pe_fn F_squares_beside (hr.mono (by decide)) (by rfl) (pa_cons (pv 0) (pa_cons (pv 4) pa_nil))) pa_nil))))) (pss_cons (ps_for PassesOwn.never rfl (pi_list (pe_fn F_stretches_of (hr.mono (by decide)) (by rfl) (pa_cons (pv 0) pa_nil))) (pg_name (i := 4) S_candidates.nd rfl (Or.inl rfl)) (pss_one (ps_expr (pe_bm PySem.F.plainAttrs_list PySem.F.slot_list_extend PySem.F.type_list_extend mt_extendA (pv 2) (pa_cons (pe_fn F_squares_beside (hr.mono (by decide)) (by rfl) (pa_cons (pv 1) (pa_cons (pv 4) pa_nil))) pa_nil))))) (pss_cons (ps_set (i := 5) S_candidates.nd rfl (Or.inl rfl) (pe_lstA pa_nil)) (pss_cons (ps_for PassesOwn.never rfl (pi_list (pv 2)) (pg_name (i := 6) S_candidates.nd rfl (Or.inl rfl)) (pss_one (ps_expr (pe_fn F_put_in (hr.mono (by decide)) (by rfl) (pa_cons (pv 5) (pa_cons (pv 6) pa_nil)))))) (pss_one (ps_ret (pv 5))))))))),?_⟩
    have hl1 : (qs.map fun (q : Addr × Int × Int) => V.ref q.1).length = qs.length := List.length_map _
    have hl2 : (rs.map fun (q : Addr × Int × Int) => V.ref q.1).length = rs.length := List.length_map _
    have c6 : (crs qs).length ≤ 6 := by rw [crs_len]; exact a6
    have d6 : (crs rs).length ≤ 6 := by rw [crs_len]; exact b6
    have pl : ∀ i,i ≤ 6 → (prN (crs qs) (crs rs) i).length ≤ 36 := fun i hi => Nat.le_trans (prN_len _ _ i) (Nat.mul_le_mul hi d6)
    have sl : ∀ (cs ds : List (Int × Int)) (i : Nat),i ≤ 6 → ds.length ≤ 6 → (stN cs ds i).length ≤ 216 := fun cs ds i hi hd => Nat.le_trans (stN_len cs ds i) (Nat.mul_le_mul hi (Nat.mul_le_mul hd hd))
    have al : ∀ (cs : List (Int × Int)) x y,cs.length ≤ 6 → (alN cs x y cs.length).length ≤ 36 := fun cs x y hd => Nat.le_trans (alN_len cs x y _) (Nat.mul_le_mul hd hd)
    refine ⟨sz (by simp),fun r H1 s1 f1 n1 => ?_⟩
    refine ⟨_,rfl,l1,rfl,⟨_,SqL.of (s1 _ _ L1.lst)⟩,for_list (K := K) (a := l1) (xs := qs.map fun (q : Addr × Int × Int) => V.ref q.1) (fun i σ H' => ∃ (z3 z4 z5 z6 : Option V),σ = [some (.ref l1),some (.ref l2),some (.ref r),z3,z4,z5,z6] ∧ Gr H H' r (prN (crs qs) (crs rs) i))
      ⟨_,_,_,_,rfl,.of s1,[],⟨f1,fun q h => nomatch h⟩,rfl⟩ (fun i σ H' _ ⟨_,_,_,_,_,G⟩ => SqL.of (G.but.same (Same.refl _) n1 _ _ L1.lst)) ?_ ?_⟩
    · rintro i v σ H2 hv ⟨z3,z4,z5,z6,rfl,bt,fs,F2,e2⟩
      rw [List.getElem?_map] at hv
      obtain ⟨u,hu,rfl⟩ := Option.map_eq_some_iff.mp hv
      have iu := (List.getElem?_eq_some_iff.mp hu).1
      have S2 := bt.same (Same.refl _) n1
      have L2' := L2.mono S2
      refine ⟨_,rfl,.inl ⟨rfl,_,SqL.of F2.lst⟩,_,rfl,l2,rfl,⟨_,SqL.of L2'.lst⟩,comp_R (K := K) (SqL.of L2'.lst) (by rw [hl2]; omega) (fun j v H' => ∃ q : Addr × Int × Int,v = .ref q.1 ∧ ((crs rs).map fun d => (sqI u.2 d,(1 : Int)))[j]? = some q.2 ∧ Frq H' q) (fun j v H H' st ⟨q,x1,x2,x3,x4⟩ => ⟨q,x1,x2,st _ _ x3,x4⟩) ?_ ?_⟩
      · intro j x H3 Kc hx s3 kk
        rw [List.getElem?_map] at hx
        obtain ⟨v,hv,rfl⟩ := Option.map_eq_some_iff.mp hx
        have cu := (L1.cn hu).mono (S2.trans s3)
        have cv := (L2.cn hv).mono (S2.trans s3)
        refine ⟨_,rfl,_,rfl,u.1,v.1,u.2,v.2,rfl,cu,cv,fun rr H4 s4 e4 => kk _ H4 s4 ⟨(rr,sqI u.2 v.2,1),rfl,?_,e4,⟨(by decide : (0 : Int) < 1),by rw [Int.gcd_one]⟩,bits_le (sqI_bits cu.2 cv.2) (by decide),(by decide : bits 1 ≤ 2000)⟩⟩
        rw [List.getElem?_map,crs_at hv]
        rfl
      · intro l3 ys H3 n3 s3 f3 h3 hr
        obtain ⟨gs,rfl,g2,g3⟩ := frl_lift ys ((crs rs).map fun d => (sqI u.2 d,(1 : Int))) (by rw [h3,hl2,List.length_map,crs_len]) hr
        have G3 : FrL H3 l3 gs := ⟨f3,g2⟩
        have q1 := F2.len e2
        have q2 := G3.len g3
        rw [List.length_map] at q2
        have q3 := pl i (by omega)
        refine ⟨r,l3,_,_,rfl,rfl,s3 _ _ F2.lst,f3,sz (by omega),fun H4 u4 => ⟨_,_,_,_,rfl,?_⟩⟩
        rw [prN_succ (crs_at hu)]
        exact Gr.step bt F2 e2 s3 G3 g3 u4
    · rintro σ H2 ⟨z3,z4,z5,z6,rfl,bt,fs,F2,e2⟩
      rw [hl1] at e2
      have S2 := bt.same (Same.refl _) n1
      have al' := al
      refine ⟨_,rfl,l2,rs,rfl,L2.mono S2,⟨b1,by omega⟩,fun r2 ls H3 s3 n3 T3 => ?_⟩
      have hls : (ls.map V.ref).length = rs.length - 1 := by rw [List.length_map,T3.len]
      have ner2 : r2 ≠ r := (ne_of_none F2.lst n3).symm
      refine ⟨r2,rfl,⟨_,SqL.of T3.lst⟩,for_list (K := K) (a := r2) (xs := ls.map V.ref) (fun i σ H' => ∃ (z3 z4 z5 z6 : Option V),σ = [some (.ref l1),some (.ref l2),some (.ref r),z3,z4,z5,z6] ∧ Gr H3 H' r (prN (crs qs) (crs rs) qs.length ++ stN (crs rs) (crs qs) i))
        ⟨_,_,_,_,rfl,.refl,fs,F2.mono s3,by rw [e2]; simp [stN]⟩ (fun i σ H' _ ⟨_,_,_,_,_,G⟩ => SqL.of (G.but _ _ ner2 T3.lst)) ?_ ?_⟩
      · rintro i v σ H4 hv ⟨z3,z4,z5,z6,rfl,bt4,gs,F4,e4⟩
        rw [List.getElem?_map] at hv
        obtain ⟨a,ha,rfl⟩ := Option.map_eq_some_iff.mp hv
        have ia := (List.getElem?_eq_some_iff.mp ha).1
        rw [T3.len] at ia
        obtain ⟨na,u,v,hu,hv,ea⟩ := T3.at_ i a ha
        have nea : a ≠ r := (ne_of_none F2.lst na).symm
        have S4 : Same H H4 := bt4.same (S2.trans s3) n1
        have q1 := F4.len e4
        rw [List.length_append] at q1
        have q3 := pl qs.length a6
        have q4 := sl (crs rs) (crs qs) i (by omega) c6
        refine ⟨_,rfl,.inl ⟨rfl,_,SqL.of F4.lst⟩,_,rfl,_,rfl,l1,a,u.1,v.1,qs,u.2,v.2,rfl,L1.mono S4,by omega,bt4 _ _ nea ea,(L2.cn hu).mono S4,(L2.cn hv).mono S4,fun r5 hs H5 s5 n5 G5 e5 => ?_⟩
        have q2 := G5.len e5
        have q5 := al (crs qs) u.2 v.2 c6
        rw [crs_len] at q5
        refine ⟨r,r5,_,_,rfl,rfl,s5 _ _ F4.lst,G5.lst,sz (by omega),fun H6 u6 => ⟨_,_,_,_,rfl,?_⟩⟩
        rw [stN_succ (crs_at hu) (crs_at hv),← List.append_assoc,crs_len]
        exact Gr.step bt4 F4 e4 s5 G5 e5 u6
      rintro σ H4 ⟨z3,z4,z5,z6,rfl,bt4,gs,F4,e4⟩
      rw [hls] at e4
      have S4 : Same H H4 := bt4.same (S2.trans s3) n1
      refine ⟨_,rfl,l1,qs,rfl,L1.mono S4,⟨a1,by omega⟩,fun r5 ls2 H5 s5 n5 T5 => ?_⟩
      have hls2 : (ls2.map V.ref).length = qs.length - 1 := by rw [List.length_map,T5.len]
      have ner5 : r5 ≠ r := (ne_of_none F4.lst n5).symm
      refine ⟨r5,rfl,⟨_,SqL.of T5.lst⟩,for_list (K := K) (a := r5) (xs := ls2.map V.ref) (fun i σ H' => ∃ (z3 z4 z5 z6 : Option V),σ = [some (.ref l1),some (.ref l2),some (.ref r),z3,z4,z5,z6] ∧ Gr H5 H' r (prN (crs qs) (crs rs) qs.length ++ stN (crs rs) (crs qs) (rs.length - 1) ++ stN (crs qs) (crs rs) i))
        ⟨_,_,_,_,rfl,.refl,gs,F4.mono s5,by rw [e4]; simp [stN]⟩ (fun i σ H' _ ⟨_,_,_,_,_,G⟩ => SqL.of (G.but _ _ ner5 T5.lst)) ?_ ?_⟩
      · rintro i v σ H6 hv ⟨z3,z4,z5,z6,rfl,bt6,hs,F6,e6⟩
        rw [List.getElem?_map] at hv
        obtain ⟨a,ha,rfl⟩ := Option.map_eq_some_iff.mp hv
        have ia := (List.getElem?_eq_some_iff.mp ha).1
        rw [T5.len] at ia
        obtain ⟨na,u,v,hu,hv,ea⟩ := T5.at_ i a ha
        have nea : a ≠ r := (ne_of_none F4.lst na).symm
        have S6 : Same H H6 := bt6.same (S4.trans s5) n1
        have q1 := F6.len e6
        rw [List.length_append,List.length_append] at q1
        have q3 := pl qs.length a6
        have q4 := sl (crs rs) (crs qs) (rs.length - 1) (by omega) c6
        have q6 := sl (crs qs) (crs rs) i (by omega) d6
        refine ⟨_,rfl,.inl ⟨rfl,_,SqL.of F6.lst⟩,_,rfl,_,rfl,l2,a,u.1,v.1,rs,u.2,v.2,rfl,L2.mono S6,by omega,bt6 _ _ nea ea,(L1.cn hu).mono S6,(L1.cn hv).mono S6,fun r7 hs7 H7 s7 n7 G7 e7 => ?_⟩
        have q2 := G7.len e7
        have q5 := al (crs rs) u.2 v.2 d6
        rw [crs_len] at q5
        refine ⟨r,r7,_,_,rfl,rfl,s7 _ _ F6.lst,G7.lst,sz (by omega),fun H8 u8 => ⟨_,_,_,_,rfl,?_⟩⟩
        rw [stN_succ (crs_at hu) (crs_at hv),← List.append_assoc,crs_len]
        exact Gr.step bt6 F6 e6 s7 G7 e7 u8
      rintro σ H6 ⟨z3,z4,z5,z6,rfl,bt6,hs,F6,e6⟩
      rw [hls2] at e6
      have S6 : Same H H6 := bt6.same (S4.trans s5) n1
      have q1 := F6.len e6
      rw [List.length_append,List.length_append] at q1
      have q3 := pl qs.length a6
      have q4 := sl (crs rs) (crs qs) (rs.length - 1) (by omega) c6
      have q6 := sl (crs qs) (crs rs) (qs.length - 1) (by omega) d6
      rw [List.length_map] at q1
      refine ⟨sz (by simp),fun g H7 s7 f7 n7 => ?_⟩
      refine ⟨_,rfl,r,rfl,⟨_,SqL.of (s7 _ _ F6.lst)⟩,for_list (K := K) (a := r) (xs := hs.map fun (q : Addr × Int × Int) => V.ref q.1) (fun i σ H' => ∃ (z3 z4 z6 : Option V) (fs : Crn),σ = [some (.ref l1),some (.ref l2),some (.ref r),z3,z4,some (.ref g),z6] ∧ SameN H6 H' ∧ Tab H' t_put_in lsP ∧ Ris H' g fs ∧ fs.length ≤ i ∧ ∀ v : Int × Int,v ∈ fs.map (·.2) ↔ v ∈ (hs.take i).map (·.2))
        ⟨_,_,_,[],rfl,.of s7,tb.same (S6.trans s7),⟨f7,(fun q h => nomatch h),.nil⟩,Nat.le_refl _,fun v => by simp⟩ (fun i σ H' _ ⟨_,_,_,_,_,S,_⟩ => SqL.of (S.l F6.lst)) ?_ ?_⟩
      · rintro i v σ H8 hv ⟨z3,z4,z6,fs,rfl,s8,tb8,R8,l8,m8⟩
        rw [List.getElem?_map] at hv
        obtain ⟨q,hq,rfl⟩ := Option.map_eq_some_iff.mp hv
        have iq := (List.getElem?_eq_some_iff.mp hq).1
        have fq := F6.fr q (List.mem_of_getElem? hq)
        refine ⟨_,rfl,_,rfl,g,q.1,fs,q.2.1,q.2.2,rfl,tb8,R8,by omega,s8.t fq.1,fq.2.1,fq.2.2,fun fs' H9 tb9 R9 mv m9 l9 => ⟨_,_,_,fs',rfl,fun b o e n => mv b o (ne_of_none e n7) (s8 b o e n) n,tb9,R9,by omega,fun v => ?_⟩⟩
        rw [m9,m8,List.take_succ,hq,List.map_append,List.mem_append]
        simp
      · rintro σ H8 ⟨z3,z4,z6,fs,rfl,s8,tb8,R8,l8,m8⟩
        rw [List.length_map] at l8 m8
        refine ⟨_,rfl,k g fs H8 ((SameN.of S6).trans s8) tb8 (S6.free n7) R8 (by omega) fun v => ?_⟩
        rw [m8,List.take_length,e6]
        unfold cdV
        rw [crs_len,crs_len]
def Pol (H : Hp) (p : Addr) : Prop := ∃ n : Int,H p = some (.lst [.int n])
theorem Pol.same {H H' : Hp} {p : Addr} (h : Pol H p) (s : Same H H') : Pol H' p := by
  obtain ⟨n,e⟩ := h
  exact ⟨n,s _ _ e⟩
theorem Pol.ne {H : Hp} {p q : Addr} (h : Pol H p) (n : H q = none) : q ≠ p := by
  obtain ⟨m,e⟩ := h
  exact (ne_of_none e n).symm
theorem Pol.t {H H' : Hp} {p : Addr} (h : Pol H p) (b : But p H H') : SameT H H' := fun c xs e => b c _ (fun z => by
  obtain ⟨m,e'⟩ := h
  rw [z,e'] at e
  cases e) e
def spPool (K : PySem.W.Frag) : Sp := fun vs H Q _ => ∃ (sa : Addr) (ss : List Int) (k : Int),vs = [.ref sa,.int k] ∧ SqL K H sa (ss.map V.int) ∧ (0 ≤ k ∧ k ≤ 1000) ∧ ∀ (p : Addr) H',Same H H' → H p = none → Pol H' p → Q (.ref p) H'
def spTake : Sp := fun vs H Q _ => ∃ (p : Addr) (m : Int),vs = [.ref p,.int m] ∧ Pol H p ∧ (0 < m ∧ bits m ≤ 8000) ∧ ∀ (r : Int) H',0 ≤ r → r < m → But p H H' → Pol H' p → Q (.int r) H'
def spCrnr : Sp := fun vs H Q _ => ∃ (p : Addr) (k : Int),vs = [.ref p,.int k] ∧ Pol H p ∧ ∀ (q : Addr × Int × Int) H',But p H H' → Pol H' p → H q.1 = none → H' q.1 = some (.tup [.int q.2.1,.int q.2.2]) → Sm q.2.1 → Sm q.2.2 → Q (.ref q.1) H'
def spLin : Sp := fun vs H Q _ => ∃ (p : Addr) (m : Int),vs = [.ref p,.int m] ∧ Pol H p ∧ (1 ≤ m ∧ m ≤ 10) ∧ ∀ (l : Addr) (qs : Crn) H',But p H H' → Pol H' p → H l = none → LineM H' l qs → 1 ≤ qs.length → (qs.length : Int) ≤ m → Q (.ref l) H'
def spSec : Sp := fun vs H Q _ => ∃ (p l0 : Addr) (qs0 : Crn) (m : Int),vs = [.ref p,.ref l0,.int m] ∧ Pol H p ∧ LineM H l0 qs0 ∧ l0 ≠ p ∧ (1 ≤ qs0.length ∧ (qs0.length : Int) ≤ m) ∧ (1 ≤ m ∧ m ≤ 10) ∧ ∀ (l : Addr) (qs : Crn) H',But p H H' → Pol H' p → H l = none → LineM H' l qs → 1 ≤ qs.length → (qs.length : Int) ≤ m → Q (.ref l) H'
theorem comp_rB {n : Nat} {lo : Int} {fv : List (Str × Nat)} {te : TE} {σ : St} {H1 : Hp} {Q : VK} {p : Addr} (hlen : n < 1000) (hp : Pol H1 p) (R : Nat → V → Hp → Prop) (hR : ∀ i v H H',SameT H H' → R i v H → R i v H')
    (hs : ∀ i H2 (Kc : VK),i < n → But p H1 H2 → Pol H2 p → (∀ y H4,But p H2 H4 → Pol H4 p → R i y H4 → Kc y H4) → te (some (.int (lo + i)) :: fvs fv σ) H2 Kc)
    (hd : ∀ l ys H',H1 l = none → But p H1 H' → Pol H' p → H' l = some (.lst ys) → ys.length = n → (∀ i y,ys[i]? = some y → R i y H') → Q (.ref l) H') :
    CompAt (Itr lo n) fv te σ H1 Q := by
  intro l hl
  have ne := hp.ne hl
  have pu : ∀ {H : Hp} {ys : List V},Pol H p → Pol (upd H l (.lst ys)) p := fun ⟨m,e⟩ => ⟨m,by rw [upd_ne ne.symm]; exact e⟩
  refine comp_range (n := n) (lo := lo) (l := l) (fv := fv) (Qp := fun H2 => Q (.ref l) H2) (fun i acc H2 => acc.length = i ∧ But p H1 H2 ∧ Pol H2 p ∧ H2 l = some (.lst acc) ∧ ∀ j y,acc[j]? = some y → R j y H2)
    ⟨rfl,But.of (Same.new hl),pu hp,upd_same,fun j y h => by simp at h⟩ ?_ ?_ ?_
  · rintro i acc H2 hi ⟨e1,bt,po,e3,_⟩
    exact ⟨e3,small1000 (by omega)⟩
  · rintro i acc H2 Kc hx ⟨e1,bt,po,e3,hr⟩ kk
    refine hs i H2 Kc hx bt po fun y H4 b4 p4 ry => kk y H4 (b4 _ _ ne e3) ⟨by simp [e1],fun c o n e => ?_,pu p4,upd_same,fun j z hz => ?_⟩
    · rw [upd_ne (ne_of_none e hl)]
      exact b4 c o n (bt c o n e)
    have t4 := SameT.upd (ys := acc ++ [y]) (b4 _ _ ne e3)
    rcases Nat.lt_trichotomy j acc.length with h | h | h
    · rw [List.getElem?_append_left h] at hz
      exact hR _ _ _ _ ((po.t b4).trans t4) (hr j z hz)
    · subst h
      rw [List.getElem?_append_right (Nat.le_refl _),Nat.sub_self] at hz
      cases hz
      rw [e1]
      exact hR _ _ _ _ t4 ry
    · rw [List.getElem?_eq_none (by simp; omega)] at hz
      cases hz
  · rintro acc H2 ⟨e1,bt,po,e3,hr⟩
    exact hd l acc H2 hl bt po e3 e1 hr
theorem S_law_pool : FnScope ["script","k","cell","number","found","turn"] ["script","k"] (defScope (top 38)) := ⟨rfl,rfl,rfl,by decide +kernel,rfl,by decide +kernel,by decide +kernel⟩
theorem fn_law_pool (D_law_pool : Df K mg "_law_pool" (top 38)) (T : Txt mg) : Fn P w K mg base "_law_pool" ["script","k"] 1 (spPool K) := by
  refine D_law_pool.fn S_law_pool (fun _ _ _ _ _ _ us hl => by obtain ⟨_,_,rfl⟩ := len2 hl; rfl) (fun vs H Q E h => ?_) (fun f cdv A outer s H vs Q E hr h => ?_)
  · obtain ⟨sa,ss,k,rfl,_⟩ := h
    rfl
  · obtain ⟨sa,ss,k,rfl,hS,⟨h0,h1⟩,q⟩ := h
    have R : ∃ u,PSs (cxOf CX0 P w K mg base ["script","k","cell","number","found","turn"] "_law_pool" (defScope (top 38)) f cdv A outer s H E).nox ((defBody (top 38)).drop 2) u ∧ ∀ (c : Int) (z3 z4 z5 : Option V),u { nx := fun _ H' => Q .non H',rt := Q } [some (.ref sa),some (.int k),some (.int c),z3,z4,z5] H := by
      refine ⟨_,(pss_cons (ps_if (pt_cmpR op_ge (pv 2) (pe_op op_pow pe_int pe_int) (nomark _)) (pss_one (ps_ret (pe_lstA (pa_cons (pe_op op_mod (pv 2) (pe_op op_mulX (pe_op op_mulX (pe_op op_pow pe_int pe_int) (pe_op op_pow pe_int pe_int)) (pe_op op_pow pe_int pe_int))) pa_nil)))) pss_nil) (pss_cons (ps_set (i := 3) S_law_pool.nd rfl (Or.inl rfl) (pe_op op_mod (pe_op op_add (pe_op op_add (pe_op op_add (pv 2) (pe_op op_mulX (pe_op op_mulX pe_int (pv 1)) (pv 1))) (pe_op op_mulX pe_int (pv 1))) pe_int) pe_int)) (pss_cons (ps_set (i := 4) S_law_pool.nd rfl (Or.inl rfl) pe_int) (pss_cons (ps_for PassesOwn.never rfl (pi_range1 rfl T.z_range (pa_cons pe_int pa_nil)) (pg_name (i := 5) S_law_pool.nd rfl (Or.inl rfl)) (pss_cons (ps_set (i := 3) S_law_pool.nd rfl (Or.inl rfl) (pe_op op_mod (pe_op op_add (pe_op op_add (pe_op op_mulX (pv 3) pe_int) (pe_op op_mulX pe_int (pv 5))) pe_int) pe_int)) (pss_cons (ps_set (i := 3) S_law_pool.nd rfl (Or.inl rfl) (pe_op op_mod (pe_op op_mulX (pv 3) (pv 3)) pe_int)) (pss_one (ps_set (i := 4) S_law_pool.nd rfl (Or.inl rfl) (pe_op op_add (pe_op op_mulX (pv 4) pe_int) (pe_op op_mod (pe_op op_add (pe_op op_mulX (pv 3) pe_int) (pv 1)) pe_int))))))) (pss_one (ps_ret (pe_lstA (pa_cons (pv 4) pa_nil)))))))),fun c z3 z4 z5 => ?_⟩
      refine ⟨_,rfl,_,_,rfl,rfl,⟨by decide,by decide,by decide⟩,_,_,rfl,rfl,_,rfl,ite3 (fun c1 => ?_) (fun c1 => ?_)⟩
      · refine ⟨_,rfl,_,_,rfl,rfl,⟨by decide,by decide⟩,_,_,rfl,rfl,⟨by decide,by decide⟩,_,_,rfl,rfl,CM.b (m := 400) (n := 400) (by decide) (by decide) (by decide) (by decide),_,_,rfl,rfl,⟨by decide,by decide⟩,_,_,rfl,rfl,CM.b (m := 800) (n := 400) (by decide) (by decide) (by decide) (by decide),_,_,rfl,rfl,?_⟩
        refine ⟨(by show (0 : Int) < 10 ^ 60 * 10 ^ 60 * 10 ^ 60; decide +kernel),sz (by simp),fun p H2 s2 f2 n2 => q p H2 s2 n2 ⟨_,f2⟩⟩
      refine ⟨_,rfl,_,rfl,_,_,rfl,rfl,CM.l ⟨by decide,by decide⟩,_,rfl,_,_,rfl,rfl,CM.r (lt64s (by omega) (by omega)),_,_,rfl,rfl,_,rfl,_,_,rfl,rfl,CM.l ⟨by decide,by decide⟩,_,_,rfl,rfl,_,_,rfl,rfl,_,_,rfl,rfl,(by show (0 : Int) < 2147483647; decide),?_⟩
      have r0 := Int.emod_nonneg (c + 104729 * k * k + 7 * k + 11) (show (2147483647 : Int) ≠ 0 by decide)
      have r1 := Int.emod_lt_of_pos (c + 104729 * k * k + 7 * k + 11) (show (0 : Int) < 2147483647 by decide)
      refine ⟨12,rfl,by decide,by decide,for_range (n := 12) (lo := 0) (fun i σ H2 => ∃ (n f : Int) (z : Option V),σ = [some (.ref sa),some (.int k),some (.int c),some (.int n),some (.int f),z] ∧ (0 ≤ n ∧ n < 2147483647) ∧ H2 = H) ⟨_,_,_,rfl,⟨r0,r1⟩,rfl⟩ ?_ ?_⟩
      · rintro i σ H2 hi ⟨n,f,z,rfl,⟨n0,n1⟩,rfl⟩
        refine ⟨_,rfl,_,_,rfl,rfl,CM.r ⟨by decide,by decide⟩,_,rfl,_,_,rfl,rfl,CM.l ⟨by decide,by decide⟩,_,_,rfl,rfl,_,_,rfl,rfl,_,_,rfl,rfl,(by show (0 : Int) < 2147483629; decide),?_⟩
        have m0 := Int.emod_nonneg (n * 48271 + 7919 * (0 + (i : Int)) + 3) (show (2147483629 : Int) ≠ 0 by decide)
        have m1 := Int.emod_lt_of_pos (n * 48271 + 7919 * (0 + (i : Int)) + 3) (show (0 : Int) < 2147483629 by decide)
        refine ⟨_,rfl,_,rfl,_,_,rfl,rfl,CM.l (by rw [show (2 : Int) ^ 64 = 18446744073709551616 by decide]; omega),_,_,rfl,rfl,(by show (0 : Int) < 2147483587; decide),?_⟩
        dsimp only
        generalize hn : (n * 48271 + 7919 * (0 + (i : Int)) + 3) % 2147483629 = a
        have k0 := Int.emod_nonneg (a * a) (show (2147483587 : Int) ≠ 0 by decide)
        have k1 := Int.emod_lt_of_pos (a * a) (show (0 : Int) < 2147483587 by decide)
        refine ⟨_,rfl,_,_,rfl,rfl,CM.r ⟨by decide,by decide⟩,_,rfl,_,_,rfl,rfl,CM.r ⟨by decide,by decide⟩,_,rfl,_,_,rfl,rfl,_,_,rfl,rfl,(by show (0 : Int) < 2147483587; decide),_,_,rfl,rfl,_,_,_,rfl,⟨k0,by omega⟩,rfl⟩
      · rintro σ H2 ⟨n,f,z,rfl,_,rfl⟩
        exact ⟨_,rfl,sz (by simp),fun p H3 s3 f3 n3 => q p H3 s3 n3 ⟨_,f3⟩⟩
    obtain ⟨u,hu,ru⟩ := R
    refine ⟨_,(pss_cons (ps_set (i := 2) S_law_pool.nd rfl (Or.inl rfl) pe_int) (pss_cons (ps_if (pt_cmpR op_lt (pv 1) (pe_callB call_len_seq (by rfl) T.z_len bt_len (pa_cons (pv 0) pa_nil)) (nomark _)) (pss_one (ps_set (i := 2) S_law_pool.nd rfl (Or.inl rfl) (pe_ix ix_list (pv 0) (pv 1) (fun _ _ => rfl)))) pss_nil) hu)),?_⟩
    refine ⟨_,rfl,_,rfl,sa,_,rfl,.inl hS,_,_,rfl,rfl,_,rfl,ite3 (fun h1 => ?_) (fun h1 => ?_)⟩
    · have h1 : k < (((ss.map V.int).length : Nat) : Int) := dec_t h1
      rw [List.length_map] at h1
      exact ⟨_,rfl,_,rfl,sa,_,_,_,rfl,rfl,hS,at_int k.toNat (by omega) (by omega),ru _ _ _ _⟩
    · exact ru _ _ _ _
theorem S_law_take : FnScope ["pool","many","digit"] ["pool","many"] (defScope (top 39)) := ⟨rfl,rfl,rfl,by decide +kernel,rfl,by decide +kernel,by decide +kernel⟩
theorem fn_law_take (D_law_take : Df K mg "_law_take" (top 39)) : Fn P w K mg base "_law_take" ["pool","many"] 1 spTake := by
  refine D_law_take.fn S_law_take (fun _ _ _ _ _ _ us hl => by obtain ⟨_,_,rfl⟩ := len2 hl; rfl) (fun vs H Q E h => ?_) (fun f cdv A outer s H vs Q E hr h => ?_)
  · obtain ⟨p,m,rfl,_⟩ := h
    rfl
  · obtain ⟨p,m,rfl,⟨n,e⟩,⟨hm,bm⟩,q⟩ := h
    refine ⟨_,(pss_cons (ps_set (i := 2) S_law_take.nd rfl (Or.inl rfl) (pe_op op_mod (pe_ix ix_list (pv 0) pe_int (fun _ _ => rfl)) (pv 1))) (pss_cons (ps_asg (pe_op op_fdivP (pe_ix ix_list (pv 0) pe_int (fun _ _ => rfl)) (pv 1)) (pg_sub (pv 0) pe_int set_listA)) (pss_one (ps_ret (pv 2))))),?_⟩
    refine ⟨_,rfl,p,_,_,_,rfl,rfl,SqL.of e,rfl,_,rfl,_,_,rfl,rfl,hm,?_⟩
    refine ⟨_,rfl,p,_,_,_,rfl,rfl,SqL.of e,rfl,_,rfl,_,_,rfl,rfl,⟨hm,bm⟩,_,rfl,p,_,_,0,rfl,rfl,e,rfl,fun H2 u => ?_⟩
    exact ⟨_,rfl,q _ _ (Int.emod_nonneg _ (by omega)) (Int.emod_lt_of_pos _ hm) (fun b o nb e => u.at nb e) ⟨_,u.now⟩⟩
theorem S_law_corner : FnScope ["pool","kind","most"] ["pool","kind"] (defScope (top 40)) := ⟨rfl,rfl,rfl,by decide +kernel,rfl,by decide +kernel,by decide +kernel⟩
theorem fn_law_corner (D_law_corner : Df K mg "_law_corner" (top 40)) (F_law_take : Fn P w K mg base "_law_take" ["pool","many"] 1 spTake) : Fn P w K mg base "_law_corner" ["pool","kind"] 2 spCrnr := by
  refine D_law_corner.fn S_law_corner (fun _ _ _ _ _ _ us hl => by obtain ⟨_,_,rfl⟩ := len2 hl; rfl) (fun vs H Q E h => ?_) (fun f cdv A outer s H vs Q E hr h => ?_)
  · obtain ⟨p,kd,rfl,_⟩ := h
    rfl
  · obtain ⟨p,kd,rfl,po,k⟩ := h
    refine ⟨_,(pss_cons (ps_if (pt_cmpR op_eq (pv 1) pe_int (nomark _)) (pss_one (ps_ret (pe_tupA (pa_cons (pe_op op_sub (pe_fn F_law_take (hr.mono (by decide)) (by rfl) (pa_cons (pv 0) (pa_cons pe_int pa_nil))) pe_int) (pa_cons (pe_op op_sub (pe_fn F_law_take (hr.mono (by decide)) (by rfl) (pa_cons (pv 0) (pa_cons pe_int pa_nil))) pe_int) pa_nil))))) pss_nil) (pss_cons (ps_if (pt_cmpR op_eq (pv 1) pe_int (nomark _)) (pss_one (ps_ret (pe_tupA (pa_cons (pe_fn F_law_take (hr.mono (by decide)) (by rfl) (pa_cons (pv 0) (pa_cons pe_int pa_nil))) (pa_cons pe_int pa_nil))))) pss_nil) (pss_cons (ps_if (pt_cmpR op_eq (pv 1) pe_int (nomark _)) (pss_one (ps_ret (pe_tupA (pa_cons (pe_op op_sub (pe_fn F_law_take (hr.mono (by decide)) (by rfl) (pa_cons (pv 0) (pa_cons pe_int pa_nil))) pe_int) (pa_cons (pe_op op_sub (pe_fn F_law_take (hr.mono (by decide)) (by rfl) (pa_cons (pv 0) (pa_cons pe_int pa_nil))) pe_int) pa_nil))))) pss_nil) (pss_cons (ps_set (i := 2) S_law_corner.nd rfl (Or.inl rfl) (pe_op op_sub (pe_op op_pow pe_int pe_int) pe_int)) (pss_one (ps_ret (pe_tupA (pa_cons (pe_op op_sub (pe_fn F_law_take (hr.mono (by decide)) (by rfl) (pa_cons (pv 0) (pa_cons (pe_op op_add (pe_op op_mulX pe_int (pv 2)) pe_int) pa_nil))) (pv 2)) (pa_cons (pe_op op_sub (pe_fn F_law_take (hr.mono (by decide)) (by rfl) (pa_cons (pv 0) (pa_cons (pe_op op_add (pe_op op_mulX pe_int (pv 2)) pe_int) pa_nil))) (pv 2)) pa_nil))))))))),?_⟩
    have e12 : ((10 : Int) ^ (12 : Int).toNat) = 1000000000000 := by decide +kernel
    have fin : ∀ {H2 : Hp} (x y : Int),But p H H2 → Pol H2 p → Sm x → Sm y → ∀ (r : Addr) H3,Same H2 H3 → H3 r = some (.tup [.int x,.int y]) → H2 r = none → Q (.ref r) H3 := fun {H2} x y b2 p2 hx hy r H3 s3 f3 n3 => k (r,x,y) H3 (b2.trans (.of s3)) (p2.same s3) (b2.none (p2.ne n3) n3) f3 hx hy
    refine ⟨_,rfl,rfl,_,rfl,ite3 (fun c => ?_) (fun c => ?_)⟩
    · refine ⟨_,rfl,p,5,rfl,po,⟨by decide,by decide⟩,fun r1 H1 a1 b1 t1 p1 => ⟨_,_,rfl,rfl,?_⟩⟩
      exact ⟨_,rfl,p,5,rfl,p1,⟨by decide,by decide⟩,fun r2 H2 a2 b2 t2 p2 => ⟨_,_,rfl,rfl,sz (by simp),fun r H3 s3 f3 n3 => fin (r1 - 2) (r2 - 2) (t1.trans t2) p2 (by unfold Sm larg; omega) (by unfold Sm larg; omega) r H3 s3 f3 n3⟩⟩
    refine ⟨_,rfl,rfl,_,rfl,ite3 (fun c => ?_) (fun c => ?_)⟩
    · exact ⟨_,rfl,p,7,rfl,po,⟨by decide,by decide⟩,fun r1 H1 a1 b1 t1 p1 => ⟨sz (by simp),fun r H3 s3 f3 n3 => fin r1 0 t1 p1 (by unfold Sm larg; omega) (by unfold Sm larg; omega) r H3 s3 f3 n3⟩⟩
    refine ⟨_,rfl,rfl,_,rfl,ite3 (fun c => ?_) (fun c => ?_)⟩
    · refine ⟨_,rfl,p,41,rfl,po,⟨by decide,by decide⟩,fun r1 H1 a1 b1 t1 p1 => ⟨_,_,rfl,rfl,?_⟩⟩
      exact ⟨_,rfl,p,41,rfl,p1,⟨by decide,by decide⟩,fun r2 H2 a2 b2 t2 p2 => ⟨_,_,rfl,rfl,sz (by simp),fun r H3 s3 f3 n3 => fin (r1 - 20) (r2 - 20) (t1.trans t2) p2 (by unfold Sm larg; omega) (by unfold Sm larg; omega) r H3 s3 f3 n3⟩⟩
    refine ⟨_,_,rfl,rfl,⟨by decide,by decide,by decide⟩,_,_,rfl,rfl,?_⟩
    dsimp only
    rw [e12]
    refine ⟨_,rfl,_,rfl,_,_,rfl,rfl,CM.l ⟨by decide,by decide⟩,_,_,rfl,rfl,p,_,rfl,po,⟨by decide,by decide⟩,fun r1 H1 a1 b1 t1 p1 => ⟨_,rfl,_,_,rfl,rfl,?_⟩⟩
    exact ⟨_,rfl,_,rfl,_,_,rfl,rfl,CM.l ⟨by decide,by decide⟩,_,_,rfl,rfl,p,_,rfl,p1,⟨by decide,by decide⟩,fun r2 H2 a2 b2 t2 p2 => ⟨_,rfl,_,_,rfl,rfl,sz (by simp),fun r H3 s3 f3 n3 => fin (r1 - (1000000000000 - 1)) (r2 - (1000000000000 - 1)) (t1.trans t2) p2 (by unfold Sm larg; omega) (by unfold Sm larg; omega) r H3 s3 f3 n3⟩⟩
theorem crn_lift {H : Hp} : ∀ (ys : List V),(∀ (i : Nat) y,ys[i]? = some y → ∃ q : Addr × Int × Int,y = .ref q.1 ∧ H q.1 = some (.tup [.int q.2.1,.int q.2.2]) ∧ Sm q.2.1 ∧ Sm q.2.2) → ∃ fs : Crn,ys = fs.map (fun (q : Addr × Int × Int) => V.ref q.1) ∧ ∀ q ∈ fs,H q.1 = some (.tup [.int q.2.1,.int q.2.2]) ∧ Sm q.2.1 ∧ Sm q.2.2
  | [],_ => ⟨[],rfl,fun q h => nomatch h⟩
  | y :: ys,h => by
    obtain ⟨fs,e1,e2⟩ := crn_lift ys fun i z hz => h (i + 1) z (by simpa using hz)
    obtain ⟨q,rfl,q3⟩ := h 0 y rfl
    refine ⟨q :: fs,by rw [e1]; rfl,fun z hz => ?_⟩
    rcases List.mem_cons.mp hz with rfl | hz
    · exact q3
    · exact e2 z hz
theorem S_law_line : FnScope ["pool","most","kind","many"] ["pool","most"] (defScope (top 41)) := ⟨rfl,rfl,rfl,by decide +kernel,rfl,by decide +kernel,by decide +kernel⟩
theorem fn_law_line (D_law_line : Df K mg "_law_line" (top 41)) (F_law_take : Fn P w K mg base "_law_take" ["pool","many"] 1 spTake) (F_law_corner : Fn P w K mg base "_law_corner" ["pool","kind"] 2 spCrnr) (T : Txt mg) : Fn P w K mg base "_law_line" ["pool","most"] 3 spLin := by
  refine D_law_line.fn S_law_line (fun _ _ _ _ _ _ us hl => by obtain ⟨_,_,rfl⟩ := len2 hl; rfl) (fun vs H Q E h => ?_) (fun f cdv A outer s H vs Q E hr h => ?_)
  · obtain ⟨p,m,rfl,_⟩ := h
    rfl
  · obtain ⟨p,m,rfl,po,⟨m1,m10⟩,k⟩ := h
    have CN : CompN (cxOf CX0 P w K mg base ["pool","most","kind","many"] "_law_line" (defScope (top 41)) f cdv A outer s H E).nox (Sp7.retScope ((defBody (top 41)).getD 2 (.Pass ⟨0,0,0,0⟩))) [("pool",s.heap.objs.size + 1),("kind",s.heap.objs.size + 2)] "k" [("pool",0),("kind",2)] :=
      ⟨by rfl,rfl,by decide +kernel,by decide +kernel,rfl,(fun p hp => by simp only [List.mem_cons,List.not_mem_nil,or_false] at hp; rcases hp with rfl | rfl <;> rfl),by rfl,by decide +kernel,(fun p hp => by simp only [List.mem_cons,List.not_mem_nil,or_false] at hp; rcases hp with rfl | rfl <;> exact ⟨rfl,rfl,.inr (.inl rfl),rfl,rfl⟩),⟨rfl,rfl⟩,rfl⟩
    refine ⟨_,(pss_cons (ps_set (i := 2) S_law_line.nd rfl (Or.inr rfl) (pe_ix ix_list (pe_lstA (pa_cons pe_int (pa_cons pe_int (pa_cons pe_int (pa_cons pe_int (pa_cons pe_int (pa_cons pe_int (pa_cons pe_int (pa_cons pe_int pa_nil))))))))) (pe_fn F_law_take (hr.mono (by decide)) (by rfl) (pa_cons (pv 0) (pa_cons pe_int pa_nil))) (fun _ _ => rfl))) (pss_cons (ps_set (i := 3) S_law_line.nd rfl (Or.inl rfl) (pe_callB (call_min2 rfl) (by rfl) T.z_min bt_min (pa_cons (pv 1) (pa_cons (pe_ix ix_list (pe_lstA (pa_cons pe_int (pa_cons pe_int (pa_cons pe_int (pa_cons pe_int (pa_cons pe_int (pa_cons pe_int (pa_cons pe_int (pa_cons pe_int pa_nil))))))))) (pe_fn F_law_take (hr.mono (by decide)) (by rfl) (pa_cons (pv 0) (pa_cons pe_int pa_nil))) (fun _ _ => rfl)) pa_nil)))) (pss_one (ps_ret (pe_compA rfl CN (pi_range1 rfl T.z_range (pa_cons (pv 3) pa_nil)) (fun fp s₀ H₀ => (pe_fn F_law_corner (hr.mono (by decide)) (by rfl) (pa_cons (pv 1) (pa_cons (pv 2) pa_nil))))))))),?_⟩
    refine ⟨sz (by simp),fun pl H1 s1 f1 n1 => ?_⟩
    refine ⟨_,rfl,p,8,rfl,po.same s1,⟨by decide,by decide⟩,fun r2 H2 a2 b2' b2 p2 => ?_⟩
    refine menuI (fun _ => True) (b2 _ _ (po.ne n1) f1) a2 (by simpa using b2') (fun v hv => ?_) fun kd _ => ?_
    · simp only [List.mem_cons,List.not_mem_nil,or_false] at hv
      rcases hv with rfl | rfl | rfl | rfl | rfl | rfl | rfl | rfl <;> exact ⟨_,rfl,trivial⟩
    refine ⟨_,rfl,sz (by simp),fun pl2 H3 s3 f3 n3 => ?_⟩
    refine ⟨_,rfl,p,8,rfl,p2.same s3,⟨by decide,by decide⟩,fun r4 H4 a4 b4' b4 p4 => ?_⟩
    refine menuI (fun m => 1 ≤ m ∧ m ≤ 10) (b4 _ _ (p2.ne n3) f3) a4 (by simpa using b4') (fun v hv => ?_) fun mm hm => ?_
    · simp only [List.mem_cons,List.not_mem_nil,or_false] at hv
      rcases hv with rfl | rfl | rfl | rfl | rfl | rfl | rfl | rfl <;> exact ⟨_,rfl,by decide,by decide⟩
    refine ⟨_,_,rfl,?_⟩
    have hn : 1 ≤ (if mm < m then mm else m) ∧ (if mm < m then mm else m) ≤ m ∧ (if mm < m then mm else m) ≤ 10 := by split <;> omega
    dsimp only
    generalize (if mm < m then mm else m) = n at hn ⊢
    have B4 : But p H H4 := (But.of s1).trans (b2.trans ((But.of s3).trans b4))
    refine ⟨_,rfl,_,rfl,by omega,by omega,comp_rB (n := n.toNat) (lo := 0) (p := p) (by omega) p4 (fun _ v H' => ∃ q : Addr × Int × Int,v = .ref q.1 ∧ H' q.1 = some (.tup [.int q.2.1,.int q.2.2]) ∧ Sm q.2.1 ∧ Sm q.2.2) (fun i v H H' st ⟨q,e1,e2,e3⟩ => ⟨q,e1,st _ _ e2,e3⟩) ?_ ?_⟩
    · intro i H5 Kc hi b5 p5 kk
      exact ⟨_,rfl,_,rfl,p,kd,rfl,p5,fun q H6 b6 p6 n6 f6 h1 h2 => kk _ H6 b6 p6 ⟨q,rfl,f6,h1,h2⟩⟩
    · intro l ys H5 nl b5 p5 f5 hl hr
      obtain ⟨fs,rfl,h2⟩ := crn_lift ys hr
      rw [List.length_map] at hl
      exact k l fs H5 (B4.trans b5) p5 (B4.none (p4.ne nl) nl) ⟨f5,h2⟩ (by omega) (by omega)
theorem line_app {H H' : Hp} {l q : Addr} {qs : Crn} {x y : Int} (L : LineM H l qs) (f : H q = some (.tup [.int x,.int y])) (hx : Sm x) (hy : Sm y) (u : Upd H H' l (qs.map fun (q : Addr × Int × Int) => V.ref q.1) ((qs.map fun (q : Addr × Int × Int) => V.ref q.1) ++ [.ref q])) : LineM H' l (qs ++ [(q,x,y)]) := by
  refine ⟨by rw [u.now,List.map_append]; rfl,fun z hz => ?_⟩
  rcases List.mem_append.mp hz with h | h
  · exact ⟨u.t _ _ (L.crn z h).1,(L.crn z h).2⟩
  · rw [List.mem_singleton.mp h]
    exact ⟨u.t _ _ f,hx,hy⟩
theorem but_upd {p r : Addr} {H H1 H2 : Hp} {xs ys : List V} (b : But p H H1) (n : H r = none) (u : Upd H1 H2 r xs ys) : But p H H2 := fun c o nc e => u.at (ne_of_none e n) (b c o nc e)
theorem pol_upd {p r : Addr} {H1 H2 : Hp} {xs ys : List V} (h : Pol H1 p) (n : r ≠ p) (u : Upd H1 H2 r xs ys) : Pol H2 p := by
  obtain ⟨m,e⟩ := h
  exact ⟨m,u.at n.symm e⟩
theorem line_but {p l : Addr} {H H' : Hp} {qs : Crn} (L : LineM H l qs) (b : But p H H') (h : Pol H p) (n : p ≠ l) : LineM H' l qs := ⟨b _ _ n.symm L.lst,fun q hq => ⟨h.t b _ _ (L.crn q hq).1,(L.crn q hq).2⟩⟩
theorem S_law_second : FnScope ["pool","line","most","way","found","x","y"] ["pool","line","most"] (defScope (top 42)) := ⟨rfl,rfl,rfl,by decide +kernel,rfl,by decide +kernel,by decide +kernel⟩
theorem fn_law_second (D_law_second : Df K mg "_law_second" (top 42)) (F_law_take : Fn P w K mg base "_law_take" ["pool","many"] 1 spTake) (F_law_line : Fn P w K mg base "_law_line" ["pool","most"] 3 spLin) (T : Txt mg) : Fn P w K mg base "_law_second" ["pool","line","most"] 4 spSec := by
  refine D_law_second.fn S_law_second (fun _ _ _ _ _ _ us hl => by obtain ⟨_,_,_,rfl⟩ := len3 hl; rfl) (fun vs H Q E h => ?_) (fun f cdv A outer s H vs Q E hr h => ?_)
  · obtain ⟨p,l0,qs0,m,rfl,_⟩ := h
    rfl
  · obtain ⟨p,l0,qs0,m,rfl,po,L0,n0,⟨l1,lm⟩,⟨m1,m10⟩,k⟩ := h
    refine ⟨_,(pss_cons (ps_set (i := 3) S_law_second.nd rfl (Or.inl rfl) (pe_fn F_law_take (hr.mono (by decide)) (by rfl) (pa_cons (pv 0) (pa_cons pe_int pa_nil)))) (pss_cons (ps_if (pt_cmpR op_lt (pv 3) pe_int (nomark _)) (pss_one (ps_ret (pe_fn F_law_line (hr.mono (by decide)) (by rfl) (pa_cons (pv 0) (pa_cons (pv 2) pa_nil))))) pss_nil) (pss_cons (ps_if (pt_cmpR op_eq (pv 3) pe_int (nomark _)) (pss_one (ps_ret (pe_sliceR (pv 1) (po_some (pe_un un_neg pe_int))))) pss_nil) (pss_cons (ps_set (i := 4) S_law_second.nd rfl (Or.inl rfl) (pe_lstA pa_nil)) (pss_cons (ps_for PassesOwn.never rfl (pi_list (pv 1)) (pg_tup rfl (pgs_cons (pg_name (i := 5) S_law_second.nd rfl (Or.inl rfl)) (pgs_cons (pg_name (i := 6) S_law_second.nd rfl (Or.inl rfl)) pgs_nil))) (pss_cons (ps_if (pw_and (pt_cmpR op_lt (pe_callB call_abs (by rfl) T.z_abs bt_abs (pa_cons (pv 5) pa_nil)) (pe_op op_sub (pe_op op_pow pe_int pe_int) pe_int) (nomark _)) (pw_and1 (pt_cmpR op_lt (pe_callB call_abs (by rfl) T.z_abs bt_abs (pa_cons (pv 6) pa_nil)) (pe_op op_sub (pe_op op_pow pe_int pe_int) pe_int) (nomark _)))).pt (pss_cons (ps_set (i := 5) S_law_second.nd rfl (Or.inl rfl) (pe_op op_sub (pe_op op_add (pv 5) (pe_fn F_law_take (hr.mono (by decide)) (by rfl) (pa_cons (pv 0) (pa_cons pe_int pa_nil)))) pe_int)) (pss_one (ps_set (i := 6) S_law_second.nd rfl (Or.inl rfl) (pe_op op_sub (pe_op op_add (pv 6) (pe_fn F_law_take (hr.mono (by decide)) (by rfl) (pa_cons (pv 0) (pa_cons pe_int pa_nil)))) pe_int)))) pss_nil) (pss_cons (ps_expr (pe_bm PySem.F.plainAttrs_list PySem.F.slot_list_append PySem.F.type_list_append mt_appendA (pv 4) (pa_cons (pe_tupA (pa_cons (pv 5) (pa_cons (pv 6) pa_nil))) pa_nil))) (pss_one (ps_if (pw_and (pt_cmpR op_eq (pv 3) pe_int (nomark _)) (pw_and (pt_cmpR op_lt (pe_callB call_len_seq (by rfl) T.z_len bt_len (pa_cons (pv 4) pa_nil)) (pv 2) (nomark _)) (pw_and1 (pt_cmpR op_eq (pe_fn F_law_take (hr.mono (by decide)) (by rfl) (pa_cons (pv 0) (pa_cons pe_int pa_nil))) pe_int (nomark _))))).pt (pss_one (ps_expr (pe_bm PySem.F.plainAttrs_list PySem.F.slot_list_append PySem.F.type_list_append mt_appendA (pv 4) (pa_cons (pe_tupA (pa_cons (pv 5) (pa_cons (pv 6) pa_nil))) pa_nil)))) pss_nil))))) (pss_one (ps_ret (pe_slice sl_listA (pv 4) po_none (po_some (pv 2)))))))))),?_⟩
    have e12 : ((10 : Int) ^ (12 : Int).toNat - 2) = 999999999998 := by decide +kernel
    have hl0 : (qs0.map fun (q : Addr × Int × Int) => V.ref q.1).length = qs0.length := List.length_map _
    refine ⟨_,rfl,p,8,rfl,po,⟨by decide,by decide⟩,fun wy H1 a1 a2 b1 p1 => ?_⟩
    refine ⟨_,rfl,_,_,rfl,rfl,_,rfl,ite3 (fun c1 => ?_) (fun c1 => ?_)⟩
    · exact ⟨_,rfl,_,rfl,p,m,rfl,p1,⟨m1,m10⟩,fun l qs H2 b2 p2 nl L h1 h2 => k l qs H2 (b1.trans b2) p2 (b1.none (p1.ne nl) nl) L h1 h2⟩
    have L1 := line_but L0 b1 po n0.symm
    refine ⟨_,rfl,rfl,_,rfl,ite3 (fun c2 => ?_) (fun c2 => ?_)⟩
    · refine ⟨_,rfl,_,rfl,_,rfl,rfl,l0,_,rfl,SqL.of L1.lst,fun l H2 s2 f2 nl => ?_⟩
      refine k l qs0.reverse H2 (b1.trans (.of s2)) (p1.same s2) (b1.none (p1.ne nl) nl) ⟨by rw [f2,List.map_reverse],fun q hq => ((L1.mono s2).crn q (List.mem_reverse.mp hq))⟩ (by rw [List.length_reverse]; exact l1) (by rw [List.length_reverse]; exact lm)
    refine ⟨sz (by simp),fun r H2 s2 f2 nr => ?_⟩
    have n1 : H r = none := b1.none (p1.ne nr) nr
    have npr : r ≠ p := p1.ne nr
    refine ⟨_,rfl,l0,rfl,⟨_,SqL.of (s2 _ _ L1.lst)⟩,for_list (K := K) (a := l0) (xs := qs0.map fun (q : Addr × Int × Int) => V.ref q.1) (fun i σ H' => ∃ (z5 z6 : Option V) (qs : Crn),σ = [some (.ref p),some (.ref l0),some (.int m),some (.int wy),some (.ref r),z5,z6] ∧ But p H H' ∧ Pol H' p ∧ LineM H' r qs ∧ i ≤ qs.length ∧ qs.length ≤ 2 * i)
      ⟨_,_,[],rfl,b1.trans (.of s2),p1.same s2,⟨f2,fun q h => nomatch h⟩,Nat.le_refl _,Nat.le_refl _⟩ (fun i σ H' _ ⟨_,_,_,_,b,_⟩ => SqL.of (b _ _ n0 L0.lst)) ?_ ?_⟩
    · rintro i v σ H3 hv ⟨z5,z6,qs,rfl,b3,p3,L3,g1,g2⟩
      rw [List.getElem?_map] at hv
      obtain ⟨u,hu,rfl⟩ := Option.map_eq_some_iff.mp hv
      have iu := (List.getElem?_eq_some_iff.mp hu).1
      have cu := (line_but L0 b3 po n0.symm).crn u (List.mem_of_getElem? hu)
      obtain ⟨x1,x2⟩ := cu.2.1
      obtain ⟨y1,y2⟩ := cu.2.2
      unfold larg at x1 x2 y1 y2
      refine ⟨u.1,_,rfl,SqT.of cu.1,rfl,_,_,rfl,_,_,rfl,rfl,?_⟩
      refine ⟨_,rfl,_,rfl,_,_,rfl,rfl,⟨by decide,by decide,by decide⟩,_,_,rfl,rfl,_,_,rfl,rfl,_,rfl,ite3 (fun c3 => ?_) (fun c3 => ?_)⟩
      · try dsimp only at c3
        rw [e12] at c3
        have c3 : (if u.2.1 < 0 then -u.2.1 else u.2.1) < 999999999998 := dec_t c3
        refine ⟨_,rfl,_,rfl,_,_,rfl,rfl,⟨by decide,by decide,by decide⟩,_,_,rfl,rfl,_,_,rfl,rfl,_,rfl,ite3 (fun c4 => ?_) (fun c4 => ?_)⟩
        · try dsimp only at c4
          rw [e12] at c4
          have c4 : (if u.2.2 < 0 then -u.2.2 else u.2.2) < 999999999998 := dec_t c4
          refine ⟨_,rfl,_,rfl,p,3,rfl,p3,⟨by decide,by decide⟩,fun r4 H4 a4 a4' b4 p4 => ⟨_,_,rfl,rfl,_,_,rfl,rfl,?_⟩⟩
          refine ⟨_,rfl,_,rfl,p,3,rfl,p4,⟨by decide,by decide⟩,fun r5 H5 a5 a5' b5 p5 => ⟨_,_,rfl,rfl,_,_,rfl,rfl,?_⟩⟩
          try dsimp only
          have LL := line_but (line_but L3 b4 p3 npr.symm) b5 p4 npr.symm
          have BB := (b3.trans b4).trans b5
          have PP := p5
          have hX : Sm (u.2.1 + r4 - 1) := by unfold Sm larg; split at c3 <;> omega
          have hY : Sm (u.2.2 + r5 - 1) := by unfold Sm larg; split at c4 <;> omega
          refine ⟨_,rfl,.inl ⟨rfl,_,SqL.of LL.lst⟩,_,rfl,_,rfl,sz (by simp),fun q HA sA fA nA => ?_⟩
          have LA := LL.mono sA
          have bA := BB.trans (But.of sA)
          refine ⟨r,_,_,rfl,rfl,LA.lst,Nat.lt_of_lt_of_le (by rw [List.length_map]; omega) (sz (n := 900) (by omega)),fun HB uB => ?_⟩
          have LB := line_app LA fA hX hY uB
          have bB : But p H HB := but_upd bA n1 uB
          have pB : Pol HB p := pol_upd (PP.same sA) npr uB
          refine ⟨_,rfl,rfl,_,rfl,ite3 (fun d1 => ?_) (fun d1 => ?_)⟩
          · refine ⟨_,rfl,r,_,rfl,.inl (SqL.of LB.lst),_,rfl,_,_,rfl,rfl,_,rfl,ite3 (fun d2 => ?_) (fun d2 => ?_)⟩
            · refine ⟨_,rfl,p,3,rfl,pB,⟨by decide,by decide⟩,fun rC HC aC cC tC pC => ⟨rfl,_,rfl,ite3 (fun d3 => ?_) (fun d3 => ?_)⟩⟩
              · have LC := line_but LB tC pB npr.symm
                refine ⟨_,rfl,.inl ⟨rfl,_,SqL.of LC.lst⟩,_,rfl,_,rfl,sz (by simp),fun q2 HD sD fD nD => ?_⟩
                have LD := LC.mono sD
                refine ⟨r,_,_,rfl,rfl,LD.lst,Nat.lt_of_lt_of_le (by rw [List.length_map,List.length_append,List.length_singleton]; omega) (sz (n := 900) (by omega)),fun HE uE => ?_⟩
                exact ⟨_,_,_,rfl,but_upd ((bB.trans tC).trans (But.of sD)) n1 uE,pol_upd (pC.same sD) npr uE,line_app LD fD hX hY uE,by simp only [List.length_append,List.length_singleton]; omega,by simp only [List.length_append,List.length_singleton]; omega⟩
              · exact ⟨_,_,_,rfl,bB.trans tC,pC,line_but LB tC pB npr.symm,by simp only [List.length_append,List.length_singleton]; omega,by simp only [List.length_append,List.length_singleton]; omega⟩
            · exact ⟨_,_,_,rfl,bB,pB,LB,by simp only [List.length_append,List.length_singleton]; omega,by simp only [List.length_append,List.length_singleton]; omega⟩
          · exact ⟨_,_,_,rfl,bB,pB,LB,by simp only [List.length_append,List.length_singleton]; omega,by simp only [List.length_append,List.length_singleton]; omega⟩
        · try dsimp only
          have LL := L3
          have BB := b3
          have PP := p3
          have hX : Sm u.2.1 := by exact cu.2.1
          have hY : Sm u.2.2 := by exact cu.2.2
          refine ⟨_,rfl,.inl ⟨rfl,_,SqL.of LL.lst⟩,_,rfl,_,rfl,sz (by simp),fun q HA sA fA nA => ?_⟩
          have LA := LL.mono sA
          have bA := BB.trans (But.of sA)
          refine ⟨r,_,_,rfl,rfl,LA.lst,Nat.lt_of_lt_of_le (by rw [List.length_map]; omega) (sz (n := 900) (by omega)),fun HB uB => ?_⟩
          have LB := line_app LA fA hX hY uB
          have bB : But p H HB := but_upd bA n1 uB
          have pB : Pol HB p := pol_upd (PP.same sA) npr uB
          refine ⟨_,rfl,rfl,_,rfl,ite3 (fun d1 => ?_) (fun d1 => ?_)⟩
          · refine ⟨_,rfl,r,_,rfl,.inl (SqL.of LB.lst),_,rfl,_,_,rfl,rfl,_,rfl,ite3 (fun d2 => ?_) (fun d2 => ?_)⟩
            · refine ⟨_,rfl,p,3,rfl,pB,⟨by decide,by decide⟩,fun rC HC aC cC tC pC => ⟨rfl,_,rfl,ite3 (fun d3 => ?_) (fun d3 => ?_)⟩⟩
              · have LC := line_but LB tC pB npr.symm
                refine ⟨_,rfl,.inl ⟨rfl,_,SqL.of LC.lst⟩,_,rfl,_,rfl,sz (by simp),fun q2 HD sD fD nD => ?_⟩
                have LD := LC.mono sD
                refine ⟨r,_,_,rfl,rfl,LD.lst,Nat.lt_of_lt_of_le (by rw [List.length_map,List.length_append,List.length_singleton]; omega) (sz (n := 900) (by omega)),fun HE uE => ?_⟩
                exact ⟨_,_,_,rfl,but_upd ((bB.trans tC).trans (But.of sD)) n1 uE,pol_upd (pC.same sD) npr uE,line_app LD fD hX hY uE,by simp only [List.length_append,List.length_singleton]; omega,by simp only [List.length_append,List.length_singleton]; omega⟩
              · exact ⟨_,_,_,rfl,bB.trans tC,pC,line_but LB tC pB npr.symm,by simp only [List.length_append,List.length_singleton]; omega,by simp only [List.length_append,List.length_singleton]; omega⟩
            · exact ⟨_,_,_,rfl,bB,pB,LB,by simp only [List.length_append,List.length_singleton]; omega,by simp only [List.length_append,List.length_singleton]; omega⟩
          · exact ⟨_,_,_,rfl,bB,pB,LB,by simp only [List.length_append,List.length_singleton]; omega,by simp only [List.length_append,List.length_singleton]; omega⟩
      · try dsimp only
        have LL := L3
        have BB := b3
        have PP := p3
        have hX : Sm u.2.1 := by exact cu.2.1
        have hY : Sm u.2.2 := by exact cu.2.2
        refine ⟨_,rfl,.inl ⟨rfl,_,SqL.of LL.lst⟩,_,rfl,_,rfl,sz (by simp),fun q HA sA fA nA => ?_⟩
        have LA := LL.mono sA
        have bA := BB.trans (But.of sA)
        refine ⟨r,_,_,rfl,rfl,LA.lst,Nat.lt_of_lt_of_le (by rw [List.length_map]; omega) (sz (n := 900) (by omega)),fun HB uB => ?_⟩
        have LB := line_app LA fA hX hY uB
        have bB : But p H HB := but_upd bA n1 uB
        have pB : Pol HB p := pol_upd (PP.same sA) npr uB
        refine ⟨_,rfl,rfl,_,rfl,ite3 (fun d1 => ?_) (fun d1 => ?_)⟩
        · refine ⟨_,rfl,r,_,rfl,.inl (SqL.of LB.lst),_,rfl,_,_,rfl,rfl,_,rfl,ite3 (fun d2 => ?_) (fun d2 => ?_)⟩
          · refine ⟨_,rfl,p,3,rfl,pB,⟨by decide,by decide⟩,fun rC HC aC cC tC pC => ⟨rfl,_,rfl,ite3 (fun d3 => ?_) (fun d3 => ?_)⟩⟩
            · have LC := line_but LB tC pB npr.symm
              refine ⟨_,rfl,.inl ⟨rfl,_,SqL.of LC.lst⟩,_,rfl,_,rfl,sz (by simp),fun q2 HD sD fD nD => ?_⟩
              have LD := LC.mono sD
              refine ⟨r,_,_,rfl,rfl,LD.lst,Nat.lt_of_lt_of_le (by rw [List.length_map,List.length_append,List.length_singleton]; omega) (sz (n := 900) (by omega)),fun HE uE => ?_⟩
              exact ⟨_,_,_,rfl,but_upd ((bB.trans tC).trans (But.of sD)) n1 uE,pol_upd (pC.same sD) npr uE,line_app LD fD hX hY uE,by simp only [List.length_append,List.length_singleton]; omega,by simp only [List.length_append,List.length_singleton]; omega⟩
            · exact ⟨_,_,_,rfl,bB.trans tC,pC,line_but LB tC pB npr.symm,by simp only [List.length_append,List.length_singleton]; omega,by simp only [List.length_append,List.length_singleton]; omega⟩
          · exact ⟨_,_,_,rfl,bB,pB,LB,by simp only [List.length_append,List.length_singleton]; omega,by simp only [List.length_append,List.length_singleton]; omega⟩
        · exact ⟨_,_,_,rfl,bB,pB,LB,by simp only [List.length_append,List.length_singleton]; omega,by simp only [List.length_append,List.length_singleton]; omega⟩
    · rintro σ H3 ⟨z5,z6,qs,rfl,b3,p3,L3,g1,g2⟩
      rw [hl0] at g1 g2
      refine ⟨_,rfl,_,rfl,_,rfl,r,_,rfl,SqL.of L3.lst,fun l H4 s4 f4 nl => ?_⟩
      obtain ⟨j,hj⟩ : ∃ j : Nat,m = (j : Int) := ⟨m.toNat,by omega⟩
      have e : cutV (qs.map fun (q : Addr × Int × Int) => V.ref q.1) none (some m) = (qs.take j).map fun (q : Addr × Int × Int) => V.ref q.1 := by
        unfold cutV
        rw [hj,HT.sIx_nat,HT.sIx_none,List.length_map,List.drop_zero,Nat.sub_zero,← List.map_take]
        congr 1
        rw [List.take_eq_take_iff]
        omega
      rw [e] at f4
      refine k l (qs.take j) H4 (b3.trans (.of s4)) (p3.same s4) (b3.none (p3.ne nl) nl) ⟨f4,fun q hq => ((L3.mono s4).crn q (List.mem_of_mem_take hq))⟩ ?_ ?_
      · rw [List.length_take]
        omega
      · rw [List.length_take]
        omega
def spInt1 : Sp := fun vs H Q _ => ∃ a : Int,vs = [.int a] ∧ Q (.bl true) H
def spShd : Sp := fun vs H Q _ => ∃ a b : Int,vs = [.int a,.int b] ∧ 0 ≤ b ∧ Q (.int (Int.gcd a b : Int)) H
def spFrT : Sp := fun vs H Q _ => ∃ (p : Addr) (a b : Int),vs = [.ref p] ∧ H p = some (.tup [.int a,.int b]) ∧ Low a b ∧ Q (.bl true) H
def spPtL : Sp := fun vs H Q _ => ∃ (l p : Addr) (qs : Crn) (t b : Int),vs = [.ref l,.ref p] ∧ LineAt H l qs ∧ (1 ≤ qs.length ∧ qs.length ≤ 20) ∧ H p = some (.tup [.int t,.int b]) ∧ (0 < b ∧ bits b ≤ 1000) ∧ (0 ≤ t ∧ t ≤ ((qs.length : Int) - 1) * b) ∧ bits t ≤ 1000 ∧ ∀ (r : Addr) H',Same H H' → H' r = some (.tup [.int (ptX qs t b),.int (ptY qs t b),.int b]) → Q (.ref r) H'
def apN (X Y b X' Y' b' : Int) : Int := (X * b' - X' * b) * (X * b' - X' * b) + (Y * b' - Y' * b) * (Y * b' - Y' * b)
def spAprt : Sp := fun vs H Q _ => ∃ (p q : Addr) (X Y b X' Y' b' : Int),vs = [.ref p,.ref q] ∧ H p = some (.tup [.int X,.int Y,.int b]) ∧ H q = some (.tup [.int X',.int Y',.int b']) ∧ (bits X ≤ 1500 ∧ bits Y ≤ 1500 ∧ bits b ≤ 1500 ∧ bits X' ≤ 1500 ∧ bits Y' ≤ 1500 ∧ bits b' ≤ 1500) ∧ ∀ (r : Addr) H',Same H H' → H' r = some (.tup [.int (apN X Y b X' Y' b'),.int (b * b' * (b * b'))]) → Q (.ref r) H'
def spLow2 : Sp := fun vs H Q _ => ∃ (p : Addr) (a b : Int),vs = [.ref p] ∧ H p = some (.tup [.int a,.int b]) ∧ (0 < b ∧ bits b ≤ 7000) ∧ ∀ (r : Addr) (s w : Int) H',Same H H' → H' r = some (.tup [.int s,.int w]) → Frac a b s w → Q (.ref r) H'
def spLeL : Sp := fun vs H Q _ => ∃ (p l lo hi : Addr) (qs : Crn) (c : Int × Int) (k : Nat) (u v : Addr × Int × Int),vs = [.ref p,.ref l,.ref lo,.ref hi] ∧ Cn H p c ∧ (LineAt H l qs ∧ qs.length ≤ 20) ∧ qs[k]? = some u ∧ qs[k + 1]? = some v ∧ H lo = some (.tup [.int (k : Int),.int 1]) ∧ H hi = some (.tup [.int ((k : Int) + 1),.int 1]) ∧
  ∀ (r : Addr) (N D : Int) H',Same H H' → H' r = some (.tup [.int N,.int D]) → (0 < D ∧ bits D ≤ 7000) → N * (leF c u.2 v.2).2 = (leF c u.2 v.2).1 * D → Q (.ref r) H'
def spAsF : Sp := fun vs H Q _ => ∃ (p q l : Addr) (qs : Crn) (c m : Int × Int) (k : Nat) (u v : Addr × Int × Int),vs = [.ref p,.ref q,.ref l,.int (k : Int)] ∧ Cn H p c ∧ Cn H q m ∧ (LineAt H l qs ∧ qs.length ≤ 20) ∧ qs[k]? = some u ∧ qs[k + 1]? = some v ∧
  ∀ (r : Addr) (fs : Crn) H',Same H H' → H r = none → FrL H' r fs → fs.map (·.2) = evV c m u.2 v.2 → Q (.ref r) H'
def spAlg : Sp := fun vs H Q _ => ∃ (l1 l2 : Addr) (qs rs : Crn),vs = [.ref l1,.ref l2] ∧ (LineAt H l1 qs ∧ 1 ≤ qs.length ∧ qs.length ≤ 6) ∧ (LineAt H l2 rs ∧ 1 ≤ rs.length ∧ rs.length ≤ 6) ∧ ∀ (r : Addr) (fs : Crn) H',Same H H' → H r = none → FrL H' r fs → fs.map (·.2) = stN (crs rs) (crs qs) (rs.length - 1) → Q (.ref r) H'
theorem pt_bits1 {H : Hp} {l : Addr} {qs : Crn} {t b : Int} (L : LineAt H l qs) (hb : 0 < b) (bb : bits b ≤ 1000) : bits (ptX qs t b) ≤ 1500 ∧ bits (ptY qs t b) ≤ 1500 := by
  have br : bits (t % b) ≤ 1000 := bits_range (Int.emod_nonneg _ (by omega)) (Int.le_of_lt (Int.emod_lt_of_pos _ hb)) bb
  have nb : ∀ {x y : Int},bits x ≤ 50 → bits y ≤ 50 → bits (x * b + (y - x) * (t % b)) ≤ 1500 := fun hx hy => bits_le (bits_add (n := 1051) (bits_le (bits_mul hx bb) (by decide)) (bits_mul (bits_sub hy hx) br)) (by decide)
  exact ⟨nb (crn_bits L _).1 (crn_bits L _).1,nb (crn_bits L _).2 (crn_bits L _).2⟩
theorem pt_at {qs : Crn} {t b : Int} {u : Addr × Int × Int} (h : qs[(t / b).toNat]? = some u) : side0 qs t b = u.2 := by
  unfold side0
  rw [List.getD_eq_getElem?_getD,h]
  rfl
theorem pt_at1 {qs : Crn} {t b : Int} {v : Addr × Int × Int} (h : qs[(t / b).toNat + 1]? = some v) : side1 qs t b = v.2 := by
  have := (List.getElem?_eq_some_iff.mp h).1
  unfold side1
  rw [Nat.min_eq_left (by omega),List.getD_eq_getElem?_getD,h]
  rfl
theorem cX_at {qs : Crn} {k : Nat} {u : Addr × Int × Int} (h : qs[k]? = some u) : cX qs k = u.2.1 ∧ cY qs k = u.2.2 := by
  unfold cX cY
  rw [List.getD_eq_getElem?_getD,h]
  exact ⟨rfl,rfl⟩
theorem ap_on {qs : Crn} {c : Int × Int} {t b : Int} {k : Nat} {u v : Addr × Int × Int} (hb : 0 < b) (hu : qs[k]? = some u) (hv : qs[k + 1]? = some v) (h1 : (k : Int) * b ≤ t) (h2 : t ≤ ((k : Int) + 1) * b) :
    apN c.1 c.2 1 (ptX qs t b) (ptY qs t b) b = b * b * sqI c u.2 - 2 * b * (t - (k : Int) * b) * leA c u.2 v.2 + (t - (k : Int) * b) * (t - (k : Int) * b) * leL u.2 v.2 := by
  have hk := (List.getElem?_eq_some_iff.mp hv).1
  rw [ptX_on hb hk h1 h2,ptY_on hb hk h1 h2,(cX_at hu).1,(cX_at hu).2,(cX_at hv).1,(cX_at hv).2]
  unfold apN sqI leA leL
  generalize t - (k : Int) * b = w
  grind
theorem S_law_whole : FnScope ["thing"] ["thing"] (defScope (top 43)) := ⟨rfl,rfl,rfl,by decide +kernel,rfl,by decide +kernel,by decide +kernel⟩
theorem fn_law_whole (D_law_whole : Df K mg "_law_whole" (top 43)) (T : Txt mg) : Fn P w K mg base "_law_whole" ["thing"] 1 spInt1 := by
  refine D_law_whole.fn S_law_whole (fun _ _ _ _ _ _ us hl => by obtain ⟨_,rfl⟩ := len1 hl; rfl) (fun vs H Q E h => ?_) (fun f cdv A outer s H vs Q E hr h => ?_)
  · obtain ⟨a,rfl,_⟩ := h
    rfl
  · obtain ⟨a,rfl,k⟩ := h
    refine ⟨_,(pss_one (ps_ret (pe_and (pe_callB call_isinst (by rfl) T.z_isinstance bt_isinstance (pa_cons (pv 0) (pa_cons (pe_ty T.z_int bt_int) pa_nil))) (pe_one (pe_not (pe_callB call_isinst (by rfl) T.z_isinstance bt_isinstance (pa_cons (pv 0) (pa_cons (pe_ty T.z_bool bt_bool) pa_nil)))))))),?_⟩
    refine ⟨_,rfl,_,_,"int",rfl,Kn.int a,nice_int,?_⟩
    refine ⟨true,rfl,?_⟩
    refine ⟨_,rfl,_,_,"bool",rfl,Kn.int a,nice_bool,?_⟩
    exact ⟨_,rfl,k⟩
theorem S_law_shared : FnScope ["a","b"] ["a","b"] (defScope (top 44)) := ⟨rfl,rfl,rfl,by decide +kernel,rfl,by decide +kernel,by decide +kernel⟩
theorem fn_law_shared (D_law_shared : Df K mg "_law_shared" (top 44)) (T : Txt mg) : Fn P w K mg base "_law_shared" ["a","b"] 1 spShd := by
  refine D_law_shared.fn S_law_shared (fun _ _ _ _ _ _ us hl => by obtain ⟨_,_,rfl⟩ := len2 hl; rfl) (fun vs H Q E h => ?_) (fun f cdv A outer s H vs Q E hr h => ?_)
  · obtain ⟨a,b,rfl,_⟩ := h
    rfl
  · obtain ⟨a,b,rfl,hb,q⟩ := h
    refine ⟨_,(pss_cons (ps_set (i := 0) S_law_shared.nd rfl (Or.inl rfl) (pe_callB call_abs (by rfl) T.z_abs bt_abs (pa_cons (pv 0) pa_nil))) (pss_cons (ps_while PassesOwn.never (pt_cmpR op_ne (pv 1) pe_int (nomark _)) (pss_one (ps_par (i := 0) (j := 1) rfl S_law_shared.nd rfl rfl (by decide) rfl rfl (pa_cons (pv 1) (pa_cons (pe_op op_mod (pv 0) (pv 1)) pa_nil)) (by rfl)))) (pss_one (ps_ret (pv 0))))),?_⟩
    refine ⟨_,rfl,a,rfl,?_⟩
    have ha : 0 ≤ (if a < 0 then -a else a) := by split <;> omega
    have hgg : Int.gcd (if a < 0 then -a else a) b = Int.gcd a b := by
      split
      · rw [Int.neg_gcd]
      · rfl
    dsimp only
    generalize (if a < 0 then -a else a) = a' at ha hgg ⊢
    refine while_by (fun σ H' => ∃ x y : Int,σ = [some (.int x),some (.int y)] ∧ H' = H ∧ 0 ≤ x ∧ 0 ≤ y ∧ Int.gcd x y = Int.gcd a b)
      (fun σ _ => match σ with | [_,some (.int y)] => y.toNat | _ => 0) ⟨_,_,rfl,rfl,ha,hb,hgg⟩ ?_ ?_
    · rintro σ H' ⟨x,y,rfl,rfl,hx,hy,hg⟩
      refine ⟨_,rfl,rfl,_,rfl,ite3 (fun hc => ?_) (fun hc => ?_)⟩
      · have hy0 : ¬ y = 0 := by simpa using hc
        have hy1 : 0 < y := by omega
        refine ⟨_,rfl,_,rfl,_,rfl,x,y,rfl,rfl,hy1,_,_,rfl,⟨y,x % y,rfl,rfl,hy,Int.emod_nonneg _ hy0,?_⟩,?_⟩
        · rw [gcd_step hx hy1]
          exact hg
        · have h1 := Int.emod_lt_of_pos x hy1
          have h2 := Int.emod_nonneg x hy0
          show (x % y).toNat < y.toNat
          omega
      · have hy0 : y = 0 := by simpa using hc
        subst hy0
        refine ⟨_,rfl,?_⟩
        have e : (Int.gcd a b : Int) = x := by rw [← hg,Int.gcd_zero]; omega
        rw [e] at q
        exact q
    · rintro σ H' Q1 Q2 hq ⟨v,e,hs,k,ek,r⟩
      exact ⟨v,e,hs,k,ek,hq _ _ r⟩
theorem S_law_less : FnScope ["a","b"] ["a","b"] (defScope (top 48)) := ⟨rfl,rfl,rfl,by decide +kernel,rfl,by decide +kernel,by decide +kernel⟩
theorem fn_law_less (D_law_less : Df K mg "_law_less" (top 48)) : Fn P w K mg base "_law_less" ["a","b"] 1 spLess := by
  refine D_law_less.fn S_law_less (fun _ _ _ _ _ _ us hl => by obtain ⟨_,_,rfl⟩ := len2 hl; rfl) (fun vs H Q E h => ?_) (fun f cdv A outer s H vs Q E hr h => ?_)
  · obtain ⟨p,q,a,b,c,d,rfl,_⟩ := h
    rfl
  · obtain ⟨p,q,a,b,c,d,rfl,hp,hq,⟨ba,bb,bc,bd⟩,k⟩ := h
    refine ⟨_,(pss_one (ps_ret (pe_cmpR op_lt (pe_op op_mulX (pe_ix ix_tup (pv 0) pe_int (fun _ _ => rfl)) (pe_ix ix_tup (pv 1) pe_int (fun _ _ => rfl))) (pe_op op_mulX (pe_ix ix_tup (pv 1) pe_int (fun _ _ => rfl)) (pe_ix ix_tup (pv 0) pe_int (fun _ _ => rfl))) (nomark _)))),?_⟩
    walk_at "rd"
    exact k
theorem S_law_lowest : FnScope ["found","by"] ["found"] (defScope (top 54)) := ⟨rfl,rfl,rfl,by decide +kernel,rfl,by decide +kernel,by decide +kernel⟩
theorem fn_law_lowest (D_law_lowest : Df K mg "_law_lowest" (top 54)) (F_law_shared : Fn P w K mg base "_law_shared" ["a","b"] 1 spShd) : Fn P w K mg base "_law_lowest" ["found"] 2 spLow2 := by
  refine D_law_lowest.fn S_law_lowest (fun _ _ _ _ _ _ us hl => by obtain ⟨_,rfl⟩ := len1 hl; rfl) (fun vs H Q E h => ?_) (fun f cdv A outer s H vs Q E hr h => ?_)
  · obtain ⟨p,a,b,rfl,_⟩ := h
    rfl
  · obtain ⟨p,a,b,rfl,hp,⟨hb,bb⟩,k⟩ := h
    refine ⟨_,(pss_cons (ps_set (i := 1) S_law_lowest.nd rfl (Or.inl rfl) (pe_fn F_law_shared (hr.mono (by decide)) (by rfl) (pa_cons (pe_ix ix_tup (pv 0) pe_int (fun _ _ => rfl)) (pa_cons (pe_ix ix_tup (pv 0) pe_int (fun _ _ => rfl)) pa_nil)))) (pss_one (ps_ret (pe_tupA (pa_cons (pe_op op_fdivP (pe_ix ix_tup (pv 0) pe_int (fun _ _ => rfl)) (pv 1)) (pa_cons (pe_op op_fdivP (pe_ix ix_tup (pv 0) pe_int (fun _ _ => rfl)) (pv 1)) pa_nil)))))),?_⟩
    have hg := gcd_pos (a := a) (b := b) (by omega)
    have bg : bits (Int.gcd a b : Int) ≤ 8000 := bits_le (gcd_bits2 (by omega) bb) (by decide)
    refine ⟨_,rfl,p,_,_,_,rfl,rfl,SqT.of hp,rfl,_,rfl,p,_,_,_,rfl,rfl,SqT.of hp,rfl,a,b,rfl,by omega,?_⟩
    refine ⟨_,rfl,p,_,_,_,rfl,rfl,SqT.of hp,rfl,_,rfl,_,_,rfl,rfl,⟨hg,bg⟩,_,rfl,p,_,_,_,rfl,rfl,SqT.of hp,rfl,_,rfl,_,_,rfl,rfl,⟨hg,bg⟩,sz (by simp),fun r H1 s1 f1 n1 => ?_⟩
    exact k r _ _ H1 s1 f1 (frac_pos hb)
theorem S_law_apart : FnScope ["here","there","left","down","bottom"] ["here","there"] (defScope (top 51)) := ⟨rfl,rfl,rfl,by decide +kernel,rfl,by decide +kernel,by decide +kernel⟩
theorem fn_law_apart (D_law_apart : Df K mg "_law_apart" (top 51)) : Fn P w K mg base "_law_apart" ["here","there"] 1 spAprt := by
  refine D_law_apart.fn S_law_apart (fun _ _ _ _ _ _ us hl => by obtain ⟨_,_,rfl⟩ := len2 hl; rfl) (fun vs H Q E h => ?_) (fun f cdv A outer s H vs Q E hr h => ?_)
  · obtain ⟨p,q,X,Y,b,X',Y',b',rfl,_⟩ := h
    rfl
  · obtain ⟨p,q,X,Y,b,X',Y',b',rfl,hp,hq,⟨h1,h2,h3,h4,h5,h6⟩,k⟩ := h
    refine ⟨_,(pss_cons (ps_set (i := 2) S_law_apart.nd rfl (Or.inl rfl) (pe_op op_sub (pe_op op_mulX (pe_ix ix_tup (pv 0) pe_int (fun _ _ => rfl)) (pe_ix ix_tup (pv 1) pe_int (fun _ _ => rfl))) (pe_op op_mulX (pe_ix ix_tup (pv 1) pe_int (fun _ _ => rfl)) (pe_ix ix_tup (pv 0) pe_int (fun _ _ => rfl))))) (pss_cons (ps_set (i := 3) S_law_apart.nd rfl (Or.inl rfl) (pe_op op_sub (pe_op op_mulX (pe_ix ix_tup (pv 0) pe_int (fun _ _ => rfl)) (pe_ix ix_tup (pv 1) pe_int (fun _ _ => rfl))) (pe_op op_mulX (pe_ix ix_tup (pv 1) pe_int (fun _ _ => rfl)) (pe_ix ix_tup (pv 0) pe_int (fun _ _ => rfl))))) (pss_cons (ps_set (i := 4) S_law_apart.nd rfl (Or.inl rfl) (pe_op op_mulX (pe_ix ix_tup (pv 0) pe_int (fun _ _ => rfl)) (pe_ix ix_tup (pv 1) pe_int (fun _ _ => rfl)))) (pss_one (ps_ret (pe_tupA (pa_cons (pe_op op_add (pe_op op_mulX (pv 2) (pv 2)) (pe_op op_mulX (pv 3) (pv 3))) (pa_cons (pe_op op_mulX (pv 4) (pv 4)) pa_nil)))))))),?_⟩
    have P : ∀ {α : Nat → Prop},α 0 → α 0 := fun h => h
    have cm : ∀ {x y : Int} {m n : Nat},bits x ≤ m → bits y ≤ n → m ≤ 100000 → n ≤ 100000 → CM x y := fun hx hy hm hn => CM.b hx hy (Nat.le_trans hm (by decide)) (Nat.le_trans hn (by decide))
    have d1 : bits (X * b' - X' * b) ≤ 3001 := bits_sub (bits_mul h1 h6) (bits_mul h4 h3)
    have d2 : bits (Y * b' - Y' * b) ≤ 3001 := bits_sub (bits_mul h2 h6) (bits_mul h5 h3)
    have d3 : bits (b * b') ≤ 3000 := bits_mul h3 h6
    refine ⟨_,rfl,p,_,_,_,rfl,rfl,SqT.of hp,rfl,_,rfl,q,_,_,_,rfl,rfl,SqT.of hq,rfl,_,_,rfl,rfl,cm h1 h6 (by decide) (by decide),_,rfl,q,_,_,_,rfl,rfl,SqT.of hq,rfl,_,rfl,p,_,_,_,rfl,rfl,SqT.of hp,rfl,_,_,rfl,rfl,cm h4 h3 (by decide) (by decide),_,_,rfl,rfl,?_⟩
    refine ⟨_,rfl,p,_,_,_,rfl,rfl,SqT.of hp,rfl,_,rfl,q,_,_,_,rfl,rfl,SqT.of hq,rfl,_,_,rfl,rfl,cm h2 h6 (by decide) (by decide),_,rfl,q,_,_,_,rfl,rfl,SqT.of hq,rfl,_,rfl,p,_,_,_,rfl,rfl,SqT.of hp,rfl,_,_,rfl,rfl,cm h5 h3 (by decide) (by decide),_,_,rfl,rfl,?_⟩
    refine ⟨_,rfl,p,_,_,_,rfl,rfl,SqT.of hp,rfl,_,rfl,q,_,_,_,rfl,rfl,SqT.of hq,rfl,_,_,rfl,rfl,cm h3 h6 (by decide) (by decide),?_⟩
    refine ⟨_,rfl,_,rfl,_,_,rfl,rfl,cm d1 d1 (by decide) (by decide),_,rfl,_,rfl,_,_,rfl,rfl,cm d2 d2 (by decide) (by decide),_,_,rfl,rfl,_,rfl,_,rfl,_,_,rfl,rfl,cm d3 d3 (by decide) (by decide),sz (by simp),fun r H1 s1 f1 n1 => ?_⟩
    exact k r H1 s1 f1
theorem S_law_is_fraction : FnScope ["thing"] ["thing"] (defScope (top 45)) := ⟨rfl,rfl,rfl,by decide +kernel,rfl,by decide +kernel,by decide +kernel⟩
theorem fn_law_is_fraction (D_law_is_fraction : Df K mg "_law_is_fraction" (top 45)) (F_law_whole : Fn P w K mg base "_law_whole" ["thing"] 1 spInt1) (F_law_shared : Fn P w K mg base "_law_shared" ["a","b"] 1 spShd) (T : Txt mg) : Fn P w K mg base "_law_is_fraction" ["thing"] 2 spFrT := by
  refine D_law_is_fraction.fn S_law_is_fraction (fun _ _ _ _ _ _ us hl => by obtain ⟨_,rfl⟩ := len1 hl; rfl) (fun vs H Q E h => ?_) (fun f cdv A outer s H vs Q E hr h => ?_)
  · obtain ⟨p,a,b,rfl,_⟩ := h
    rfl
  · obtain ⟨p,a,b,rfl,hp,lw,k⟩ := h
    refine ⟨_,(pss_cons (ps_if (pw_or (pt_not (pt_val (pe_callB call_isinst (by rfl) T.z_isinstance bt_isinstance (pa_cons (pv 0) (pa_cons (pe_ty T.z_tuple bt_tuple) pa_nil))))) (pw_or1 (pt_cmpR op_ne (pe_callB call_len_seq (by rfl) T.z_len bt_len (pa_cons (pv 0) pa_nil)) pe_int (nomark _)))).pt (pss_one (ps_ret pe_bl)) pss_nil) (pss_cons (ps_if (pw_or (pt_not (pt_val (pe_fn F_law_whole (hr.mono (by decide)) (by rfl) (pa_cons (pe_ix ix_tup (pv 0) pe_int (fun _ _ => rfl)) pa_nil)))) (pw_or (pt_not (pt_val (pe_fn F_law_whole (hr.mono (by decide)) (by rfl) (pa_cons (pe_ix ix_tup (pv 0) pe_int (fun _ _ => rfl)) pa_nil)))) (pw_or1 (pt_cmpR op_lt (pe_ix ix_tup (pv 0) pe_int (fun _ _ => rfl)) pe_int (nomark _))))).pt (pss_one (ps_ret pe_bl)) pss_nil) (pss_one (ps_ret (pe_cmpR op_eq (pe_fn F_law_shared (hr.mono (by decide)) (by rfl) (pa_cons (pe_ix ix_tup (pv 0) pe_int (fun _ _ => rfl)) (pa_cons (pe_ix ix_tup (pv 0) pe_int (fun _ _ => rfl)) pa_nil))) pe_int (nomark _)))))),?_⟩
    have hb := lw.pos
    refine ⟨_,rfl,_,_,"tuple",rfl,Kn.tup hp,nice_tuple,?_⟩
    refine ⟨_,rfl,iteFalse rfl ?_⟩
    refine ⟨_,rfl,p,_,rfl,.inr (SqT.of hp),rfl,_,rfl,iteFalse rfl ?_⟩
    refine ⟨_,rfl,p,_,_,_,rfl,rfl,SqT.of hp,rfl,a,rfl,_,rfl,iteFalse rfl ?_⟩
    refine ⟨_,rfl,p,_,_,_,rfl,rfl,SqT.of hp,rfl,b,rfl,_,rfl,iteFalse rfl ?_⟩
    refine ⟨_,rfl,p,_,_,_,rfl,rfl,SqT.of hp,rfl,_,_,rfl,rfl,_,rfl,iteFalse (by simp; omega) ?_⟩
    refine ⟨_,rfl,p,_,_,_,rfl,rfl,SqT.of hp,rfl,_,rfl,p,_,_,_,rfl,rfl,SqT.of hp,rfl,a,b,rfl,by omega,?_⟩
    rw [lw.one]
    exact ⟨rfl,k⟩
theorem S_law_point : FnScope ["line","place","top","bottom","k","part","x","y","wide"] ["line","place"] (defScope (top 50)) := ⟨rfl,rfl,rfl,by decide +kernel,rfl,by decide +kernel,by decide +kernel⟩
theorem fn_law_point (D_law_point : Df K mg "_law_point" (top 50)) (T : Txt mg) : Fn P w K mg base "_law_point" ["line","place"] 1 spPtL := by
  refine D_law_point.fn S_law_point (fun _ _ _ _ _ _ us hl => by obtain ⟨_,_,rfl⟩ := len2 hl; rfl) (fun vs H Q E h => ?_) (fun f cdv A outer s H vs Q E hr h => ?_)
  · obtain ⟨l,p,qs,t,b,rfl,_⟩ := h
    rfl
  · obtain ⟨l,p,qs,t,b,rfl,L,⟨h1,h20⟩,hp,⟨hb,bb⟩,⟨t0,t1⟩,bt,k⟩ := h
    refine ⟨_,(pss_cons (ps_asg (pv 1) (pg_tup rfl (pgs_cons (pg_name (i := 2) S_law_point.nd rfl (Or.inl rfl)) (pgs_cons (pg_name (i := 3) S_law_point.nd rfl (Or.inl rfl)) pgs_nil)))) (pss_cons (ps_set (i := 4) S_law_point.nd rfl (Or.inl rfl) (pe_op op_fdivP (pv 2) (pv 3))) (pss_cons (ps_if (pt_cmpR op_eq (pv 4) (pe_op op_sub (pe_callB call_len_seq (by rfl) T.z_len bt_len (pa_cons (pv 0) pa_nil)) pe_int) (nomark _)) (pss_one (ps_ret (pe_tupA (pa_cons (pe_op op_mulX (pe_ix ix_tup (pe_ix ix_list (pv 0) (pv 4) (fun _ _ => rfl)) pe_int (fun _ _ => rfl)) (pv 3)) (pa_cons (pe_op op_mulX (pe_ix ix_tup (pe_ix ix_list (pv 0) (pv 4) (fun _ _ => rfl)) pe_int (fun _ _ => rfl)) (pv 3)) (pa_cons (pv 3) pa_nil)))))) pss_nil) (pss_cons (ps_set (i := 5) S_law_point.nd rfl (Or.inl rfl) (pe_op op_sub (pv 2) (pe_op op_mulX (pv 4) (pv 3)))) (pss_cons (ps_asg (pe_ix ix_list (pv 0) (pv 4) (fun _ _ => rfl)) (pg_tup rfl (pgs_cons (pg_name (i := 6) S_law_point.nd rfl (Or.inl rfl)) (pgs_cons (pg_name (i := 7) S_law_point.nd rfl (Or.inl rfl)) pgs_nil)))) (pss_cons (ps_set (i := 8) S_law_point.nd rfl (Or.inl rfl) (pe_op op_sub (pe_ix ix_tup (pe_ix ix_list (pv 0) (pe_op op_add (pv 4) pe_int) (fun _ _ => rfl)) pe_int (fun _ _ => rfl)) (pv 6))) (pss_one (ps_ret (pe_tupA (pa_cons (pe_op op_add (pe_op op_mulX (pv 6) (pv 3)) (pe_op op_mulX (pv 5) (pv 8))) (pa_cons (pe_op op_add (pe_op op_mulX (pv 7) (pv 3)) (pe_op op_mulX (pv 5) (pe_op op_sub (pe_ix ix_tup (pe_ix ix_list (pv 0) (pe_op op_add (pv 4) pe_int) (fun _ _ => rfl)) pe_int (fun _ _ => rfl)) (pv 7)))) (pa_cons (pv 3) pa_nil)))))))))))),?_⟩
    have hll : (qs.map fun (q : Addr × Int × Int) => V.ref q.1).length = qs.length := List.length_map _
    have q0 : 0 ≤ t / b := Int.ediv_nonneg t0 (by omega)
    have q1 : t / b ≤ (qs.length : Int) - 1 := Int.ediv_le_of_le_mul hb t1
    have em := Int.emod_add_mul_ediv t b
    have em' : t - t / b * b = t % b := by rw [Int.mul_comm]; omega
    have r0 := Int.emod_nonneg t (show b ≠ 0 by omega)
    have r1 := Int.emod_lt_of_pos t hb
    have br : bits (t % b) ≤ 1000 := bits_range r0 (Int.le_of_lt r1) bb
    obtain ⟨u,hu,au⟩ := at_crn (qs := qs) (k := t / b) q0 (by omega)
    have cu := L.cn hu
    have cm : ∀ {x y : Int},bits x ≤ 1000 → bits y ≤ 1000 → CM x y := fun hx hy => CM.b hx hy (by decide) (by decide)
    have b50 : ∀ {x : Int},bits x ≤ 50 → bits x ≤ 1000 := fun h => bits_le h (by decide)
    refine ⟨_,rfl,p,_,rfl,SqT.of hp,rfl,_,_,rfl,_,_,rfl,rfl,?_⟩
    refine ⟨_,rfl,_,rfl,_,_,rfl,rfl,⟨hb,bits_le bb (by decide)⟩,?_⟩
    refine ⟨_,rfl,_,rfl,l,_,rfl,.inl (SqL.of L.lst),_,_,rfl,rfl,rfl,_,rfl,ite3 (fun c1 => ?_) (fun c1 => ?_)⟩
    · have c1 : t / b = (((qs.map fun (q : Addr × Int × Int) => V.ref q.1).length : Nat) : Int) - 1 := by simpa using c1
      rw [hll] at c1
      refine ⟨_,rfl,_,rfl,l,_,_,_,rfl,rfl,SqL.of L.lst,au,u.1,_,_,_,rfl,rfl,SqT.of cu.1,rfl,_,rfl,_,_,rfl,rfl,cm (b50 cu.2.1) bb,?_⟩
      refine ⟨_,rfl,_,rfl,l,_,_,_,rfl,rfl,SqL.of L.lst,au,u.1,_,_,_,rfl,rfl,SqT.of cu.1,rfl,_,rfl,_,_,rfl,rfl,cm (b50 cu.2.2) bb,_,rfl,sz (by simp),fun r H1 s1 f1 n1 => ?_⟩
      have z : t % b = 0 := by
        rw [c1] at em'
        have := t1
        omega
      refine k r H1 s1 ?_
      rw [f1]
      unfold ptX ptY Sp11.numAt
      rw [pt_at hu,z,Int.mul_zero,Int.mul_zero,Int.add_zero,Int.add_zero]
    have c1 : ¬ t / b = (((qs.map fun (q : Addr × Int × Int) => V.ref q.1).length : Nat) : Int) - 1 := by simpa using c1
    rw [hll] at c1
    obtain ⟨v,hv,av⟩ := at_crn (qs := qs) (k := t / b + 1) (by omega) (by omega)
    have cv := L.cn hv
    have hv' : qs[(t / b).toNat + 1]? = some v := by
      rw [show (t / b).toNat + 1 = (t / b + 1).toNat by omega]
      exact hv
    have bw : ∀ {x y : Int},bits x ≤ 50 → bits y ≤ 50 → bits (x - y) ≤ 1000 := fun hx hy => bits_le (bits_sub hx hy) (by decide)
    refine ⟨_,rfl,_,rfl,_,rfl,_,_,rfl,rfl,CM.l ?_,_,_,rfl,rfl,?_⟩
    · rw [show (2 : Int) ^ 64 = 18446744073709551616 by decide]
      omega
    dsimp only
    rw [em']
    refine ⟨_,rfl,_,rfl,l,_,_,_,rfl,rfl,SqL.of L.lst,au,u.1,_,rfl,SqT.of cu.1,rfl,_,_,rfl,_,_,rfl,rfl,?_⟩
    refine ⟨_,rfl,_,rfl,_,_,rfl,rfl,l,_,_,_,rfl,rfl,SqL.of L.lst,av,v.1,_,_,_,rfl,rfl,SqT.of cv.1,rfl,_,rfl,_,_,rfl,rfl,?_⟩
    refine ⟨_,rfl,_,rfl,_,_,rfl,rfl,cm (b50 cu.2.1) bb,_,rfl,_,rfl,_,_,rfl,rfl,cm br (bw cv.2.1 cu.2.1),_,_,rfl,rfl,?_⟩
    refine ⟨_,rfl,_,rfl,_,_,rfl,rfl,cm (b50 cu.2.2) bb,_,rfl,_,rfl,_,rfl,_,_,rfl,rfl,l,_,_,_,rfl,rfl,SqL.of L.lst,av,v.1,_,_,_,rfl,rfl,SqT.of cv.1,rfl,_,rfl,_,_,rfl,rfl,_,_,rfl,rfl,cm br (bw cv.2.2 cu.2.2),_,_,rfl,rfl,_,rfl,sz (by simp),fun r H1 s1 f1 n1 => ?_⟩
    refine k r H1 s1 ?_
    rw [f1]
    unfold ptX ptY Sp11.numAt
    rw [pt_at hu,pt_at1 hv',Int.mul_comm (v.2.1 - u.2.1),Int.mul_comm (v.2.2 - u.2.2)]
theorem S_law_least : FnScope ["corner","line","low","high","k","x","y","wide","tall","long","place"] ["corner","line","low","high"] (defScope (top 53)) := ⟨rfl,rfl,rfl,by decide +kernel,rfl,by decide +kernel,by decide +kernel⟩
theorem fn_law_least (D_law_least : Df K mg "_law_least" (top 53)) (F_law_less : Fn P w K mg base "_law_less" ["a","b"] 1 spLess) (F_law_apart : Fn P w K mg base "_law_apart" ["here","there"] 1 spAprt) (F_law_point : Fn P w K mg base "_law_point" ["line","place"] 1 spPtL) (T : Txt mg) : Fn P w K mg base "_law_least" ["corner","line","low","high"] 2 spLeL := by
  refine D_law_least.fn S_law_least (fun _ _ _ _ _ _ us hl => by obtain ⟨_,_,_,_,rfl⟩ := len4 hl; rfl) (fun vs H Q E h => ?_) (fun f cdv A outer s H vs Q E hr h => ?_)
  · obtain ⟨p,l,lo,hi,qs,c,k,u,v,rfl,_⟩ := h
    rfl
  · obtain ⟨p,l,lo,hi,qs,c,k,u,v,rfl,hc,⟨L,h20⟩,hu,hv,hlo,hhi,q⟩ := h
    have hll : (qs.map fun (q : Addr × Int × Int) => V.ref q.1).length = qs.length := List.length_map _
    have iv := (List.getElem?_eq_some_iff.mp hv).1
    have cu := L.cn hu
    have cv := L.cn hv
    have bL := leL_bits cu.2 cv.2
    have bA := leA_bits hc.2 cu.2 cv.2
    have nL := leL_nn u.2 v.2
    have R : ∃ ww,PSs (cxOf CX0 P w K mg base ["corner","line","low","high","k","x","y","wide","tall","long","place"] "_law_least" (defScope (top 53)) f cdv A outer s H E).nox ((defBody (top 53)).drop 10) ww ∧ ∀ (pl : Addr) (t b : Int) (kv X Y W TT LL : Int) (H' : Hp),Same H H' → H' pl = some (.tup [.int t,.int b]) → (0 < b ∧ bits b ≤ 1000) → bits t ≤ 1000 → (k : Int) * b ≤ t → t ≤ ((k : Int) + 1) * b → (b * b * sqI c u.2 - 2 * b * (t - (k : Int) * b) * leA c u.2 v.2 + (t - (k : Int) * b) * (t - (k : Int) * b) * leL u.2 v.2) * (leF c u.2 v.2).2 = (leF c u.2 v.2).1 * (b * b) →
        ww { nx := fun _ H' => Q .non H',rt := Q } [some (.ref p),some (.ref l),some (.ref lo),some (.ref hi),some (.int kv),some (.int X),some (.int Y),some (.int W),some (.int TT),some (.int LL),some (.ref pl)] H' := by
      refine ⟨_,(pss_one (ps_ret (pe_fn F_law_apart (hr.mono (by decide)) (by rfl) (pa_cons (pe_op op_catTA (pv 0) (pe_tupA (pa_cons pe_int pa_nil))) (pa_cons (pe_fn F_law_point (hr.mono (by decide)) (by rfl) (pa_cons (pv 1) (pa_cons (pv 10) pa_nil))) pa_nil))))),fun pl t b kv X Y W TT LL H1 s1 e1 ⟨hb,bb⟩ bt h1 h2 hN => ?_⟩
      have t0 : 0 ≤ t := Int.le_trans (Int.mul_nonneg (by omega) (by omega)) h1
      have t1 : t ≤ ((qs.length : Int) - 1) * b := Int.le_trans h2 (Int.mul_le_mul_of_nonneg_right (by omega) (by omega))
      refine ⟨_,rfl,sz (by simp),fun z H2 s2 f2 _ => ?_⟩
      refine ⟨p,z,_,_,rfl,rfl,s2 _ _ (s1 _ _ hc.1),f2,⟨by simp,by simp⟩,sz (by simp),fun z2 H3 s3 f3 _ => ?_⟩
      have S3 := s1.trans (s2.trans s3)
      refine ⟨_,rfl,_,rfl,l,pl,qs,t,b,rfl,L.mono S3,⟨by omega,h20⟩,s3 _ _ (s2 _ _ e1),⟨hb,bb⟩,⟨t0,t1⟩,bt,fun z3 H4 s4 f4 => ?_⟩
      have b50 : ∀ {x : Int},bits x ≤ 50 → bits x ≤ 1500 := fun h => bits_le h (by decide)
      have pb := pt_bits1 L hb bb (t := t)
      refine ⟨z2,z3,c.1,c.2,1,ptX qs t b,ptY qs t b,b,rfl,s4 _ _ f3,f4,⟨b50 hc.2.1,b50 hc.2.2,by decide,pb.1,pb.2,bits_le bb (by decide)⟩,fun r H5 s5 f5 => ?_⟩
      refine q r _ _ H5 (S3.trans (s4.trans s5)) f5 ⟨Int.mul_pos (by omega) (by omega),bits_le (bits_mul (bits_mul (show bits 1 ≤ 1 by decide) bb) (bits_mul (show bits 1 ≤ 1 by decide) bb)) (by decide)⟩ ?_
      rw [ap_on hb hu hv h1 h2,hN,Int.one_mul]
    obtain ⟨ww,hw,rw'⟩ := R
    refine ⟨_,(pss_cons (ps_set (i := 4) S_law_least.nd rfl (Or.inl rfl) (pe_op op_fdivP (pe_ix ix_tup (pv 2) pe_int (fun _ _ => rfl)) (pe_ix ix_tup (pv 2) pe_int (fun _ _ => rfl)))) (pss_cons (ps_if (pt_cmpR op_eq (pv 4) (pe_op op_sub (pe_callB call_len_seq (by rfl) T.z_len bt_len (pa_cons (pv 1) pa_nil)) pe_int) (nomark _)) (pss_one (ps_ret (pe_fn F_law_apart (hr.mono (by decide)) (by rfl) (pa_cons (pe_op op_catTA (pv 0) (pe_tupA (pa_cons pe_int pa_nil))) (pa_cons (pe_fn F_law_point (hr.mono (by decide)) (by rfl) (pa_cons (pv 1) (pa_cons (pv 2) pa_nil))) pa_nil))))) pss_nil) (pss_cons (ps_asg (pe_ix ix_list (pv 1) (pv 4) (fun _ _ => rfl)) (pg_tup rfl (pgs_cons (pg_name (i := 5) S_law_least.nd rfl (Or.inl rfl)) (pgs_cons (pg_name (i := 6) S_law_least.nd rfl (Or.inl rfl)) pgs_nil)))) (pss_cons (ps_set (i := 7) S_law_least.nd rfl (Or.inl rfl) (pe_op op_sub (pe_ix ix_tup (pe_ix ix_list (pv 1) (pe_op op_add (pv 4) pe_int) (fun _ _ => rfl)) pe_int (fun _ _ => rfl)) (pv 5))) (pss_cons (ps_set (i := 8) S_law_least.nd rfl (Or.inl rfl) (pe_op op_sub (pe_ix ix_tup (pe_ix ix_list (pv 1) (pe_op op_add (pv 4) pe_int) (fun _ _ => rfl)) pe_int (fun _ _ => rfl)) (pv 6))) (pss_cons (ps_set (i := 9) S_law_least.nd rfl (Or.inl rfl) (pe_op op_add (pe_op op_mulX (pv 7) (pv 7)) (pe_op op_mulX (pv 8) (pv 8)))) (pss_cons (ps_set (i := 10) S_law_least.nd rfl (Or.inl rfl) (pv 2)) (pss_cons (ps_if (pt_cmpR op_gt (pv 9) pe_int (nomark _)) (pss_one (ps_set (i := 10) S_law_least.nd rfl (Or.inl rfl) (pe_tupA (pa_cons (pe_op op_add (pe_op op_add (pe_op op_mulX (pv 4) (pv 9)) (pe_op op_mulX (pe_op op_sub (pe_ix ix_tup (pv 0) pe_int (fun _ _ => rfl)) (pv 5)) (pv 7))) (pe_op op_mulX (pe_op op_sub (pe_ix ix_tup (pv 0) pe_int (fun _ _ => rfl)) (pv 6)) (pv 8))) (pa_cons (pv 9) pa_nil))))) pss_nil) (pss_cons (ps_if (pt_val (pe_fn F_law_less (hr.mono (by decide)) (by rfl) (pa_cons (pv 10) (pa_cons (pv 2) pa_nil)))) (pss_one (ps_set (i := 10) S_law_least.nd rfl (Or.inl rfl) (pv 2))) pss_nil) (pss_cons (ps_if (pt_val (pe_fn F_law_less (hr.mono (by decide)) (by rfl) (pa_cons (pv 3) (pa_cons (pv 10) pa_nil)))) (pss_one (ps_set (i := 10) S_law_least.nd rfl (Or.inl rfl) (pv 3))) pss_nil) hw)))))))))),?_⟩
    have hk : ((k : Int)) / 1 = (k : Int) := Int.ediv_one _
    refine ⟨_,rfl,lo,_,_,_,rfl,rfl,SqT.of hlo,rfl,_,rfl,lo,_,_,_,rfl,rfl,SqT.of hlo,rfl,_,_,rfl,rfl,⟨by decide,by decide⟩,?_⟩
    dsimp only
    rw [hk]
    refine ⟨_,rfl,_,rfl,l,_,rfl,.inl (SqL.of L.lst),_,_,rfl,rfl,rfl,_,rfl,iteFalse (by rw [hll]; simp; omega) ?_⟩
    have au : atI (qs.map fun (q : Addr × Int × Int) => V.ref q.1) (k : Int) = some (.ref u.1) := atI_nat (by rw [List.getElem?_map,hu]; rfl)
    have av : atI (qs.map fun (q : Addr × Int × Int) => V.ref q.1) ((k : Int) + 1) = some (.ref v.1) := atI_nat (j := k + 1) (by rw [List.getElem?_map,hv]; rfl)
    have bs : ∀ {x y : Int},bits x ≤ 50 → bits y ≤ 50 → bits (x - y) ≤ 51 := fun hx hy => bits_sub hx hy
    have cm : ∀ {a b c d : Int},bits a ≤ 50 → bits b ≤ 50 → bits c ≤ 50 → bits d ≤ 50 → CM (a - b) (c - d) := fun h1 h2 h3 h4 => CM.b (bs h1 h2) (bs h3 h4) (by decide) (by decide)
    refine ⟨_,rfl,_,rfl,l,_,_,_,rfl,rfl,SqL.of L.lst,au,u.1,_,rfl,SqT.of cu.1,rfl,_,_,rfl,_,_,rfl,rfl,?_⟩
    refine ⟨_,rfl,_,rfl,_,_,rfl,rfl,l,_,_,_,rfl,rfl,SqL.of L.lst,av,v.1,_,_,_,rfl,rfl,SqT.of cv.1,rfl,_,rfl,_,_,rfl,rfl,?_⟩
    refine ⟨_,rfl,_,rfl,_,_,rfl,rfl,l,_,_,_,rfl,rfl,SqL.of L.lst,av,v.1,_,_,_,rfl,rfl,SqT.of cv.1,rfl,_,rfl,_,_,rfl,rfl,?_⟩
    refine ⟨_,rfl,_,rfl,_,_,rfl,rfl,cm cv.2.1 cu.2.1 cv.2.1 cu.2.1,_,rfl,_,rfl,_,_,rfl,rfl,cm cv.2.2 cu.2.2 cv.2.2 cu.2.2,_,_,rfl,rfl,?_⟩
    dsimp only
    rw [show (v.2.1 - u.2.1) * (v.2.1 - u.2.1) + (v.2.2 - u.2.2) * (v.2.2 - u.2.2) = leL u.2 v.2 from rfl]
    have kb : bits (k : Int) ≤ 10 := bits_small (by omega) (by omega)
    have kb1 : bits ((k : Int) + 1) ≤ 10 := bits_small (by omega) (by omega)
    have lowEnd : leL u.2 v.2 = 0 ∨ leA c u.2 v.2 < 0 → ∀ (kv X Y W TT LL : Int) (H' : Hp),Same H H' → ww { nx := fun _ H' => Q .non H',rt := Q } [some (.ref p),some (.ref l),some (.ref lo),some (.ref hi),some (.int kv),some (.int X),some (.int Y),some (.int W),some (.int TT),some (.int LL),some (.ref lo)] H' := fun h kv X Y W TT LL H' s' => rw' lo (k : Int) 1 kv X Y W TT LL H' s' (s' _ _ hlo) ⟨by decide,by decide⟩ (bits_le kb (by decide)) (by omega) (by omega) (by
      unfold leF
      rw [if_pos h]
      simp)
    refine ⟨_,rfl,?_⟩
    refine ⟨_,rfl,_,_,rfl,rfl,_,rfl,ite3 (fun c1 => ?_) (fun c1 => ?_)⟩
    · have c1 : leL u.2 v.2 > 0 := dec_t c1
      refine ⟨_,rfl,_,rfl,_,_,rfl,rfl,CM.b kb bL (by decide) (by decide),_,rfl,p,_,_,_,rfl,rfl,SqT.of hc.1,rfl,_,rfl,_,_,rfl,rfl,_,rfl,_,_,rfl,rfl,cm hc.2.1 cu.2.1 cv.2.1 cu.2.1,_,_,rfl,rfl,_,rfl,p,_,_,_,rfl,rfl,SqT.of hc.1,rfl,_,rfl,_,_,rfl,rfl,_,rfl,_,_,rfl,rfl,cm hc.2.2 cu.2.2 cv.2.2 cu.2.2,_,_,rfl,rfl,_,rfl,?_⟩
      dsimp only
      rw [show (k : Int) * leL u.2 v.2 + (c.1 - u.2.1) * (v.2.1 - u.2.1) + (c.2 - u.2.2) * (v.2.2 - u.2.2) = (k : Int) * leL u.2 v.2 + leA c u.2 v.2 by unfold leA; omega]
      refine ⟨sz (by simp),fun pl H1 s1 f1 _ => ?_⟩
      have bt : bits ((k : Int) * leL u.2 v.2 + leA c u.2 v.2) ≤ 200 := bits_le (bits_add (n := 113) (bits_mul kb bL) (bits_le bA (by decide))) (by decide)
      have b2 : ∀ {x : Int} {n : Nat},bits x ≤ n → n ≤ 200 → bits x ≤ 2000 := fun h hn => bits_le h (by omega)
      have b1 : bits 1 ≤ 2000 := by decide
      refine ⟨_,rfl,_,rfl,pl,lo,_,_,_,_,rfl,f1,s1 _ _ hlo,⟨b2 bt (by decide),b2 bL (by decide),b2 kb (by decide),b1⟩,_,rfl,ite3 (fun c2 => ?_) (fun c2 => ?_)⟩
      · have c2 : ((k : Int) * leL u.2 v.2 + leA c u.2 v.2) * 1 < (k : Int) * leL u.2 v.2 := dec_t c2
        refine ⟨_,rfl,_,rfl,_,rfl,hi,lo,_,_,_,_,rfl,s1 _ _ hhi,s1 _ _ hlo,⟨b2 kb1 (by decide),b1,b2 kb (by decide),b1⟩,_,rfl,iteFalse (by simp; omega) ?_⟩
        exact lowEnd (.inr (by omega)) _ _ _ _ _ _ H1 s1
      · have c2 : ¬ ((k : Int) * leL u.2 v.2 + leA c u.2 v.2) * 1 < (k : Int) * leL u.2 v.2 := dec_f c2
        refine ⟨_,rfl,_,rfl,hi,pl,_,_,_,_,rfl,s1 _ _ hhi,f1,⟨b2 kb1 (by decide),b1,b2 bt (by decide),b2 bL (by decide)⟩,_,rfl,ite3 (fun c3 => ?_) (fun c3 => ?_)⟩
        · have c3 : ((k : Int) + 1) * leL u.2 v.2 < ((k : Int) * leL u.2 v.2 + leA c u.2 v.2) * 1 := dec_t c3
          rw [Int.add_mul,Int.one_mul] at c3
          refine ⟨_,rfl,rw' hi ((k : Int) + 1) 1 _ _ _ _ _ _ H1 s1 (s1 _ _ hhi) ⟨by decide,by decide⟩ (bits_le kb1 (by decide)) (by omega) (by omega) ?_⟩
          unfold leF
          rw [if_neg (by omega),if_pos (by omega)]
          have e4 : sqI c v.2 = sqI c u.2 - 2 * leA c u.2 v.2 + leL u.2 v.2 := by
            unfold sqI leA leL
            grind
          simp only [e4]
          rw [show (k : Int) + 1 - (k : Int) * 1 = 1 by omega]
          omega
        · have c3 : ¬ ((k : Int) + 1) * leL u.2 v.2 < ((k : Int) * leL u.2 v.2 + leA c u.2 v.2) * 1 := dec_f c3
          rw [Int.add_mul,Int.one_mul] at c3
          refine rw' pl _ (leL u.2 v.2) _ _ _ _ _ _ H1 s1 f1 ⟨by omega,bits_le bL (by decide)⟩ (bits_le bt (by decide)) (by omega) (by rw [Int.add_mul,Int.one_mul]; omega) ?_
          unfold leF
          rw [if_neg (by omega),if_neg (by omega)]
          simp only
          rw [show (k : Int) * leL u.2 v.2 + leA c u.2 v.2 - (k : Int) * leL u.2 v.2 = leA c u.2 v.2 by omega]
          generalize leA c u.2 v.2 = al
          generalize leL u.2 v.2 = LV
          generalize sqI c u.2 = G
          grind
    · have c1 : ¬ leL u.2 v.2 > 0 := dec_f c1
      have b2 : bits (k : Int) ≤ 2000 ∧ bits ((k : Int) + 1) ≤ 2000 := ⟨bits_le kb (by decide),bits_le kb1 (by decide)⟩
      have b1 : bits 1 ≤ 2000 := by decide
      refine ⟨_,rfl,_,rfl,lo,lo,_,_,_,_,rfl,hlo,hlo,⟨b2.1,b1,b2.1,b1⟩,_,rfl,iteFalse (by simp) ?_⟩
      refine ⟨_,rfl,_,rfl,hi,lo,_,_,_,_,rfl,hhi,hlo,⟨b2.2,b1,b2.1,b1⟩,_,rfl,iteFalse (by simp; omega) ?_⟩
      exact lowEnd (.inl (by omega)) _ _ _ _ _ _ H (Same.refl _)
theorem S_law_as_far : FnScope ["first","second","line","k","x","y","wide","tall","slope","here","there","top"] ["first","second","line","k"] (defScope (top 55)) := ⟨rfl,rfl,rfl,by decide +kernel,rfl,by decide +kernel,by decide +kernel⟩
theorem fn_law_as_far (D_law_as_far : Df K mg "_law_as_far" (top 55)) (F_law_lowest : Fn P w K mg base "_law_lowest" ["found"] 2 spLow2) (F_law_apart : Fn P w K mg base "_law_apart" ["here","there"] 1 spAprt) (F_law_point : Fn P w K mg base "_law_point" ["line","place"] 1 spPtL) (T : Txt mg) : Fn P w K mg base "_law_as_far" ["first","second","line","k"] 3 spAsF := by
  refine D_law_as_far.fn S_law_as_far (fun _ _ _ _ _ _ us hl => by obtain ⟨_,_,_,_,rfl⟩ := len4 hl; rfl) (fun vs H Q E h => ?_) (fun f cdv A outer s H vs Q E hr h => ?_)
  · obtain ⟨p,q,l,qs,c,m,k,u,v,rfl,_⟩ := h
    rfl
  · obtain ⟨p,q,l,qs,c,m,k,u,v,rfl,hc,hm,⟨L,h20⟩,hu,hv,kk⟩ := h
    have hll : (qs.map fun (q : Addr × Int × Int) => V.ref q.1).length = qs.length := List.length_map _
    have iv := (List.getElem?_eq_some_iff.mp hv).1
    have cu := L.cn hu
    have cv := L.cn hv
    have bP := evP_bits hc.2 hm.2 cu.2 cv.2
    have nP := evP_nn c m u.2 v.2
    have kb : bits (k : Int) ≤ 10 := bits_small (by omega) (by omega)
    have R : ∃ ww,PSs (cxOf CX0 P w K mg base ["first","second","line","k","x","y","wide","tall","slope","here","there","top"] "_law_as_far" (defScope (top 55)) f cdv A outer s H E).nox ((defBody (top 55)).drop 8) ww ∧ ∀ (P : Int × Int) (X Y W TT HH TH : Int),P = evP c m u.2 v.2 →
        ww { nx := fun _ H' => Q .non H',rt := Q } [some (.ref p),some (.ref q),some (.ref l),some (.int (k : Int)),some (.int X),some (.int Y),some (.int W),some (.int TT),some (.int P.2),some (.int HH),some (.int TH),some (.int P.1)] H := by
      refine ⟨_,(pss_cons (ps_if (pw_or (pt_cmpR op_eq (pv 8) pe_int (nomark _)) (pw_or (pt_cmpR op_lt (pv 11) pe_int (nomark _)) (pw_or1 (pt_cmpR op_gt (pv 11) (pv 8) (nomark _))))).pt (pss_one (ps_ret (pe_lstA pa_nil))) pss_nil) (pss_one (ps_ret (pe_lstA (pa_cons (pe_fn F_law_lowest (hr.mono (by decide)) (by rfl) (pa_cons (pe_fn F_law_apart (hr.mono (by decide)) (by rfl) (pa_cons (pe_op op_catTA (pv 0) (pe_tupA (pa_cons pe_int pa_nil))) (pa_cons (pe_fn F_law_point (hr.mono (by decide)) (by rfl) (pa_cons (pv 2) (pa_cons (pe_tupA (pa_cons (pe_op op_add (pe_op op_mulX (pv 3) (pv 8)) (pv 11)) (pa_cons (pv 8) pa_nil))) pa_nil))) pa_nil))) pa_nil)) pa_nil))))),fun P X Y W TT HH TH hP => ?_⟩
      rw [← hP] at bP nP
      have none : P.2 = 0 ∨ P.1 < 0 ∨ P.2 < P.1 → ∀ (r : Addr) H1,Same H H1 → H1 r = some (.lst []) → H r = none → Q (.ref r) H1 := fun h r H1 s1 f1 n1 => kk r [] H1 s1 n1 ⟨f1,fun q h => nomatch h⟩ (by
        unfold evV
        rw [← hP,if_pos h]
        rfl)
      refine ⟨_,rfl,rfl,_,rfl,ite3 (fun c1 => ?_) (fun c1 => ?_)⟩
      · have c1 : P.2 = 0 := by simpa using c1
        exact ⟨sz (by simp),fun r H1 s1 f1 n1 => none (.inl c1) r H1 s1 f1 n1⟩
      have c1 : ¬ P.2 = 0 := by simpa using c1
      refine ⟨_,rfl,_,_,rfl,rfl,_,rfl,ite3 (fun c2 => ?_) (fun c2 => ?_)⟩
      · have c2 : P.1 < 0 := dec_t c2
        exact ⟨sz (by simp),fun r H1 s1 f1 n1 => none (.inr (.inl c2)) r H1 s1 f1 n1⟩
      have c2 : ¬ P.1 < 0 := dec_f c2
      refine ⟨_,rfl,_,rfl,_,_,rfl,rfl,_,rfl,ite3 (fun c3 => ?_) (fun c3 => ?_)⟩
      · have c3 : P.1 > P.2 := dec_t c3
        exact ⟨sz (by simp),fun r H1 s1 f1 n1 => none (.inr (.inr c3)) r H1 s1 f1 n1⟩
      have c3 : ¬ P.1 > P.2 := dec_f c3
      have hS : 0 < P.2 := by omega
      refine ⟨_,rfl,sz (by simp),fun z H2 s2 f2 _ => ?_⟩
      refine ⟨p,z,_,_,rfl,rfl,s2 _ _ hc.1,f2,⟨by simp,by simp⟩,sz (by simp),fun z2 H3 s3 f3 _ => ?_⟩
      refine ⟨_,rfl,_,rfl,_,rfl,_,_,rfl,rfl,CM.b kb bP.2 (by decide) (by decide),_,rfl,_,_,rfl,rfl,_,rfl,sz (by simp),fun pl H4 s4 f4 _ => ?_⟩
      have S4 := s2.trans (s3.trans s4)
      have bt : bits ((k : Int) * P.2 + P.1) ≤ 1000 := bits_le (bits_add (n := 121) (bits_mul kb bP.2) (bits_le bP.1 (by decide))) (by decide)
      have bb : bits P.2 ≤ 1000 := bits_le bP.2 (by decide)
      have t0 : 0 ≤ (k : Int) * P.2 + P.1 := Int.add_nonneg (Int.mul_nonneg (by omega) (by omega)) (by omega)
      have h2 : (k : Int) * P.2 + P.1 ≤ ((k : Int) + 1) * P.2 := by rw [Int.add_mul,Int.one_mul]; omega
      refine ⟨l,pl,qs,_,_,rfl,L.mono S4,⟨by omega,h20⟩,f4,⟨hS,bb⟩,⟨t0,Int.le_trans h2 (Int.mul_le_mul_of_nonneg_right (by omega) (by omega))⟩,bt,fun z3 H5 s5 f5 => ?_⟩
      have b50 : ∀ {x : Int},bits x ≤ 50 → bits x ≤ 1500 := fun h => bits_le h (by decide)
      have pb := pt_bits1 L hS bb (t := (k : Int) * P.2 + P.1)
      refine ⟨z2,z3,c.1,c.2,1,_,_,_,rfl,s5 _ _ (s4 _ _ f3),f5,⟨b50 hc.2.1,b50 hc.2.2,by decide,pb.1,pb.2,bits_le bb (by decide)⟩,fun r H6 s6 f6 => ?_⟩
      rw [ap_on hS hu hv (by omega) h2,show (k : Int) * P.2 + P.1 - (k : Int) * P.2 = P.1 by omega,Int.one_mul] at f6
      have bd := evF_bits hc.2 cu.2 cv.2 bP
      have hD : 0 < (evF c u.2 v.2 P).2 := Int.mul_pos hS hS
      refine ⟨r,(evF c u.2 v.2 P).1,(evF c u.2 v.2 P).2,rfl,f6,⟨hD,bits_le bd.2 (by decide)⟩,fun r2 s w H7 s7 f7 fr => ?_⟩
      have bd2 := frac_bits hD fr bd.1 bd.2
      have S7 := S4.trans (s5.trans (s6.trans s7))
      refine ⟨sz (by simp),fun rr H8 s8 f8 n8 => kk rr [(r2,s,w)] H8 (S7.trans s8) (S7.free n8) ⟨f8,fun z hz => ?_⟩ ?_⟩
      · rw [List.mem_singleton.mp hz]
        exact ⟨s8 _ _ f7,fr.low,bits_le bd2.1 (by decide),bits_le bd2.2 (by decide)⟩
      · unfold evV
        rw [← hP,if_neg (by omega),← lowF_of hD fr]
        rfl
    obtain ⟨ww,hw,rw'⟩ := R
    refine ⟨_,(pss_cons (ps_asg (pe_ix ix_list (pv 2) (pv 3) (fun _ _ => rfl)) (pg_tup rfl (pgs_cons (pg_name (i := 4) S_law_as_far.nd rfl (Or.inl rfl)) (pgs_cons (pg_name (i := 5) S_law_as_far.nd rfl (Or.inl rfl)) pgs_nil)))) (pss_cons (ps_set (i := 6) S_law_as_far.nd rfl (Or.inl rfl) (pe_op op_sub (pe_ix ix_tup (pe_ix ix_list (pv 2) (pe_op op_add (pv 3) pe_int) (fun _ _ => rfl)) pe_int (fun _ _ => rfl)) (pv 4))) (pss_cons (ps_set (i := 7) S_law_as_far.nd rfl (Or.inl rfl) (pe_op op_sub (pe_ix ix_tup (pe_ix ix_list (pv 2) (pe_op op_add (pv 3) pe_int) (fun _ _ => rfl)) pe_int (fun _ _ => rfl)) (pv 5))) (pss_cons (ps_set (i := 8) S_law_as_far.nd rfl (Or.inl rfl) (pe_op op_mulX pe_int (pe_op op_add (pe_op op_mulX (pe_op op_sub (pe_ix ix_tup (pv 0) pe_int (fun _ _ => rfl)) (pe_ix ix_tup (pv 1) pe_int (fun _ _ => rfl))) (pv 6)) (pe_op op_mulX (pe_op op_sub (pe_ix ix_tup (pv 0) pe_int (fun _ _ => rfl)) (pe_ix ix_tup (pv 1) pe_int (fun _ _ => rfl))) (pv 7))))) (pss_cons (ps_set (i := 9) S_law_as_far.nd rfl (Or.inl rfl) (pe_op op_add (pe_op op_mulX (pe_op op_sub (pe_ix ix_tup (pv 0) pe_int (fun _ _ => rfl)) (pv 4)) (pe_op op_sub (pe_ix ix_tup (pv 0) pe_int (fun _ _ => rfl)) (pv 4))) (pe_op op_mulX (pe_op op_sub (pe_ix ix_tup (pv 0) pe_int (fun _ _ => rfl)) (pv 5)) (pe_op op_sub (pe_ix ix_tup (pv 0) pe_int (fun _ _ => rfl)) (pv 5))))) (pss_cons (ps_set (i := 10) S_law_as_far.nd rfl (Or.inl rfl) (pe_op op_add (pe_op op_mulX (pe_op op_sub (pe_ix ix_tup (pv 1) pe_int (fun _ _ => rfl)) (pv 4)) (pe_op op_sub (pe_ix ix_tup (pv 1) pe_int (fun _ _ => rfl)) (pv 4))) (pe_op op_mulX (pe_op op_sub (pe_ix ix_tup (pv 1) pe_int (fun _ _ => rfl)) (pv 5)) (pe_op op_sub (pe_ix ix_tup (pv 1) pe_int (fun _ _ => rfl)) (pv 5))))) (pss_cons (ps_set (i := 11) S_law_as_far.nd rfl (Or.inl rfl) (pe_op op_sub (pv 9) (pv 10))) (pss_cons (ps_if (pt_cmpR op_lt (pv 8) pe_int (nomark _)) (pss_one (ps_par (i := 11) (j := 8) rfl S_law_as_far.nd rfl rfl (by decide) rfl rfl (pa_cons (pe_op op_sub pe_int (pv 11)) (pa_cons (pe_op op_sub pe_int (pv 8)) pa_nil)) (by rfl))) pss_nil) hw)))))))),?_⟩
    have au : atI (qs.map fun (q : Addr × Int × Int) => V.ref q.1) (k : Int) = some (.ref u.1) := atI_nat (by rw [List.getElem?_map,hu]; rfl)
    have av : atI (qs.map fun (q : Addr × Int × Int) => V.ref q.1) ((k : Int) + 1) = some (.ref v.1) := atI_nat (j := k + 1) (by rw [List.getElem?_map,hv]; rfl)
    have bs : ∀ {x y : Int},bits x ≤ 50 → bits y ≤ 50 → bits (x - y) ≤ 51 := fun hx hy => bits_sub hx hy
    have cm : ∀ {a b c d : Int},bits a ≤ 50 → bits b ≤ 50 → bits c ≤ 50 → bits d ≤ 50 → CM (a - b) (c - d) := fun h1 h2 h3 h4 => CM.b (bs h1 h2) (bs h3 h4) (by decide) (by decide)
    refine ⟨_,rfl,_,rfl,l,_,_,_,rfl,rfl,SqL.of L.lst,au,u.1,_,rfl,SqT.of cu.1,rfl,_,_,rfl,_,_,rfl,rfl,?_⟩
    refine ⟨_,rfl,_,rfl,_,_,rfl,rfl,l,_,_,_,rfl,rfl,SqL.of L.lst,av,v.1,_,_,_,rfl,rfl,SqT.of cv.1,rfl,_,rfl,_,_,rfl,rfl,?_⟩
    refine ⟨_,rfl,_,rfl,_,_,rfl,rfl,l,_,_,_,rfl,rfl,SqL.of L.lst,av,v.1,_,_,_,rfl,rfl,SqT.of cv.1,rfl,_,rfl,_,_,rfl,rfl,?_⟩
    refine ⟨_,rfl,p,_,_,_,rfl,rfl,SqT.of hc.1,rfl,_,rfl,q,_,_,_,rfl,rfl,SqT.of hm.1,rfl,_,_,rfl,rfl,_,rfl,_,_,rfl,rfl,cm hc.2.1 hm.2.1 cv.2.1 cu.2.1,_,rfl,p,_,_,_,rfl,rfl,SqT.of hc.1,rfl,_,rfl,q,_,_,_,rfl,rfl,SqT.of hm.1,rfl,_,_,rfl,rfl,_,rfl,_,_,rfl,rfl,cm hc.2.2 hm.2.2 cv.2.2 cu.2.2,_,_,rfl,rfl,_,_,rfl,rfl,CM.l ⟨by decide,by decide⟩,?_⟩
    refine ⟨_,rfl,p,_,_,_,rfl,rfl,SqT.of hc.1,rfl,_,rfl,_,_,rfl,rfl,_,rfl,p,_,_,_,rfl,rfl,SqT.of hc.1,rfl,_,rfl,_,_,rfl,rfl,_,_,rfl,rfl,cm hc.2.1 cu.2.1 hc.2.1 cu.2.1,_,rfl,p,_,_,_,rfl,rfl,SqT.of hc.1,rfl,_,rfl,_,_,rfl,rfl,_,rfl,p,_,_,_,rfl,rfl,SqT.of hc.1,rfl,_,rfl,_,_,rfl,rfl,_,_,rfl,rfl,cm hc.2.2 cu.2.2 hc.2.2 cu.2.2,_,_,rfl,rfl,?_⟩
    refine ⟨_,rfl,q,_,_,_,rfl,rfl,SqT.of hm.1,rfl,_,rfl,_,_,rfl,rfl,_,rfl,q,_,_,_,rfl,rfl,SqT.of hm.1,rfl,_,rfl,_,_,rfl,rfl,_,_,rfl,rfl,cm hm.2.1 cu.2.1 hm.2.1 cu.2.1,_,rfl,q,_,_,_,rfl,rfl,SqT.of hm.1,rfl,_,rfl,_,_,rfl,rfl,_,rfl,q,_,_,_,rfl,rfl,SqT.of hm.1,rfl,_,rfl,_,_,rfl,rfl,_,_,rfl,rfl,cm hm.2.2 cu.2.2 hm.2.2 cu.2.2,_,_,rfl,rfl,?_⟩
    refine ⟨_,rfl,_,rfl,_,_,rfl,rfl,?_⟩
    refine ⟨_,rfl,_,_,rfl,rfl,_,rfl,ite3 (fun c1 => ?_) (fun c1 => ?_)⟩
    · have c1 : evS c m u.2 v.2 < 0 := dec_t c1
      refine ⟨_,rfl,_,_,rfl,rfl,_,rfl,_,_,rfl,rfl,_,_,rfl,rw' (0 - evT c m u.2,0 - evS c m u.2 v.2) _ _ _ _ _ _ ?_⟩
      unfold evP
      rw [if_pos c1]
    · have c1 : ¬ evS c m u.2 v.2 < 0 := dec_f c1
      refine rw' (evT c m u.2,evS c m u.2 v.2) _ _ _ _ _ _ ?_
      unfold evP
      rw [if_neg c1]
theorem S_law_along : FnScope ["one","other","found","k","at","second"] ["one","other"] (defScope (top 56)) := ⟨rfl,rfl,rfl,by decide +kernel,rfl,by decide +kernel,by decide +kernel⟩
theorem fn_law_along (D_law_along : Df K mg "_law_along" (top 56)) (F_law_lowest : Fn P w K mg base "_law_lowest" ["found"] 2 spLow2) (F_law_least : Fn P w K mg base "_law_least" ["corner","line","low","high"] 2 spLeL) (F_law_as_far : Fn P w K mg base "_law_as_far" ["first","second","line","k"] 3 spAsF) (T : Txt mg) : Fn P w K mg base "_law_along" ["one","other"] 4 spAlg := by
  refine D_law_along.fn S_law_along (fun _ _ _ _ _ _ us hl => by obtain ⟨_,_,rfl⟩ := len2 hl; rfl) (fun vs H Q E h => ?_) (fun f cdv A outer s H vs Q E hr h => ?_)
  · obtain ⟨l1,l2,qs,rs,rfl,_⟩ := h
    rfl
  · obtain ⟨l1,l2,qs,rs,rfl,⟨L1,a1,a6⟩,⟨L2,b1,b6⟩,k⟩ := h
    refine ⟨_,(pss_cons (ps_set (i := 2) S_law_along.nd rfl (Or.inl rfl) (pe_lstA pa_nil)) (pss_cons (ps_for PassesOwn.never rfl (pi_range1 rfl T.z_range (pa_cons (pe_op op_sub (pe_callB call_len_seq (by rfl) T.z_len bt_len (pa_cons (pv 1) pa_nil)) pe_int) pa_nil)) (pg_name (i := 3) S_law_along.nd rfl (Or.inl rfl)) (pss_one (ps_for PassesOwn.never rfl (pi_range1 rfl T.z_range (pa_cons (pe_callB call_len_seq (by rfl) T.z_len bt_len (pa_cons (pv 0) pa_nil)) pa_nil)) (pg_name (i := 4) S_law_along.nd rfl (Or.inl rfl)) (pss_cons (ps_expr (pe_bm PySem.F.plainAttrs_list PySem.F.slot_list_append PySem.F.type_list_append mt_appendA (pv 2) (pa_cons (pe_fn F_law_lowest (hr.mono (by decide)) (by rfl) (pa_cons (pe_fn F_law_least (hr.mono (by decide)) (by rfl) (pa_cons (pe_ix ix_list (pv 0) (pv 4) (fun _ _ => rfl)) (pa_cons (pv 1) (pa_cons (pe_tupA (pa_cons (pv 3) (pa_cons pe_int pa_nil))) (pa_cons (pe_tupA (pa_cons (pe_op op_add (pv 3) pe_int) (pa_cons pe_int pa_nil))) pa_nil))))) pa_nil)) pa_nil))) (pss_one (ps_for PassesOwn.never rfl (pi_list (pe_slice sl_listA (pv 0) po_none (po_some (pv 4)))) (pg_name (i := 5) S_law_along.nd rfl (Or.inl rfl)) (pss_one (ps_expr (pe_bm PySem.F.plainAttrs_list PySem.F.slot_list_extend PySem.F.type_list_extend mt_extendA (pv 2) (pa_cons (pe_fn F_law_as_far (hr.mono (by decide)) (by rfl) (pa_cons (pe_ix ix_list (pv 0) (pv 4) (fun _ _ => rfl)) (pa_cons (pv 5) (pa_cons (pv 1) (pa_cons (pv 3) pa_nil))))) pa_nil)))))))))) (pss_one (ps_ret (pv 2))))),?_⟩
    have hl1 : (qs.map fun (q : Addr × Int × Int) => V.ref q.1).length = qs.length := List.length_map _
    have hl2 : (rs.map fun (q : Addr × Int × Int) => V.ref q.1).length = rs.length := List.length_map _
    have c6 : (crs qs).length ≤ 6 := by rw [crs_len]; exact a6
    have sl : ∀ i,i ≤ 6 → (stN (crs rs) (crs qs) i).length ≤ 216 := fun i hi => Nat.le_trans (stN_len _ _ i) (Nat.mul_le_mul hi (Nat.mul_le_mul c6 c6))
    have al : ∀ x y i,i ≤ 6 → (alN (crs qs) x y i).length ≤ 36 := fun x y i hd => Nat.le_trans (alN_len _ x y i) (Nat.mul_le_mul hd hd)
    refine ⟨sz (by simp),fun r H1 s1 f1 n1 => ?_⟩
    refine ⟨_,rfl,l2,_,rfl,.inl (SqL.of (s1 _ _ L2.lst)),_,_,rfl,rfl,_,rfl,by rw [hl2]; omega,by rw [hl2]; omega,?_⟩
    refine for_range (n := (((rs.map fun (q : Addr × Int × Int) => V.ref q.1).length : Int) - 1).toNat) (lo := 0) (fun i σ H' => ∃ (z3 z4 z5 : Option V) (fs : Crn),σ = [some (.ref l1),some (.ref l2),some (.ref r),z3,z4,z5] ∧ Same H H' ∧ FrL H' r fs ∧ fs.map (·.2) = stN (crs rs) (crs qs) i)
      ⟨_,_,_,[],rfl,s1,⟨f1,fun q h => nomatch h⟩,rfl⟩ ?_ ?_
    · rintro i σ H2 hi ⟨z3,z4,z5,fs,rfl,s2,F2,e2⟩
      rw [hl2] at hi
      rw [show (0 : Int) + (i : Int) = (i : Int) from Int.zero_add _]
      have hx : rs[i]? = some (rs[i]'(by omega)) := List.getElem?_eq_getElem (by omega)
      have hy : rs[i + 1]? = some (rs[i + 1]'(by omega)) := List.getElem?_eq_getElem (by omega)
      generalize rs[i]'(by omega) = x at hx
      generalize rs[i + 1]'(by omega) = y at hy
      refine ⟨_,rfl,l1,_,rfl,.inl (SqL.of (s2 _ _ L1.lst)),_,rfl,by rw [hl1]; omega,by rw [hl1]; omega,?_⟩
      refine for_range (n := (((qs.map fun (q : Addr × Int × Int) => V.ref q.1).length : Nat) : Int).toNat) (lo := 0) (fun j σ H' => ∃ (z4 z5 : Option V) (fs : Crn),σ = [some (.ref l1),some (.ref l2),some (.ref r),some (.int (i : Int)),z4,z5] ∧ Same H H' ∧ FrL H' r fs ∧ fs.map (·.2) = stN (crs rs) (crs qs) i ++ alN (crs qs) x.2 y.2 j)
        ⟨_,_,fs,rfl,s2,F2,by rw [e2]; simp [alN]⟩ ?_ ?_
      · rintro j σ H3 hj ⟨z4,z5,gs,rfl,s3,F3,e3⟩
        rw [hl1] at hj
        rw [show (0 : Int) + (j : Int) = (j : Int) from Int.zero_add _]
        have hu : qs[j]? = some (qs[j]'(by omega)) := List.getElem?_eq_getElem (by omega)
        generalize qs[j]'(by omega) = u at hu
        have au : atI (qs.map fun (q : Addr × Int × Int) => V.ref q.1) (j : Int) = some (.ref u.1) := atI_nat (by rw [List.getElem?_map,hu]; rfl)
        have q1 := sl i (by omega)
        have q2 := al x.2 y.2 j (by omega)
        have q3 := F3.len e3
        rw [List.length_append] at q3
        refine ⟨_,rfl,.inl ⟨rfl,_,SqL.of F3.lst⟩,_,rfl,_,rfl,l1,_,_,_,rfl,rfl,SqL.of (s3 _ _ L1.lst),au,_,rfl,_,rfl,sz (by simp),fun lo H4 s4 f4 _ => ?_⟩
        refine ⟨_,rfl,_,_,rfl,rfl,sz (by simp),fun hi H5 s5 f5 _ => ?_⟩
        have S5 := s3.trans (s4.trans s5)
        refine ⟨u.1,l2,lo,hi,rs,u.2,i,x,y,rfl,(L1.cn hu).mono S5,⟨L2.mono S5,by omega⟩,hx,hy,s5 _ _ f4,f5,fun r6 N D H6 s6 f6 hD hN => ?_⟩
        refine ⟨r6,N,D,rfl,f6,hD,fun r7 s w H7 s7 f7 fr => ?_⟩
        have fv := frac_move hD.1 fr hN
        have bd := leF_bits (L1.cn hu).2 (L2.cn hx).2 (L2.cn hy).2
        have bd2 := frac_bits (leF_pos u.2 x.2 y.2) fv bd.1 bd.2
        have vv : (s,w) = leV u.2 x.2 y.2 := lowF_of (leF_pos u.2 x.2 y.2) fv
        have T7 := s4.trans (s5.trans (s6.trans s7))
        have F7 := F3.mono T7
        refine ⟨r,_,_,rfl,rfl,F7.lst,Nat.lt_of_lt_of_le (by rw [q3]; omega) (sz (n := 900) (by omega)),fun H8 u8 => ?_⟩
        have F8 := F7.cat (gs := [(r7,s,w)]) (fun q hq => by rw [List.mem_singleton.mp hq]; exact ⟨f7,fr.low,bits_le bd2.1 (by decide),bits_le bd2.2 (by decide)⟩) u8
        have S8 : Same H H8 := u8.same (s3.trans T7) n1
        refine ⟨_,rfl,_,rfl,_,rfl,l1,_,rfl,SqL.of (S8 _ _ L1.lst),fun ps H9 s9 f9 n9 => ?_⟩
        rw [cut_take (by rw [hl1]; omega),← List.map_take] at f9
        have ne : ps ≠ r := (ne_of_none F8.lst n9).symm
        refine ⟨ps,rfl,⟨_,SqL.of f9⟩,for_list (K := K) (a := ps) (xs := (qs.take j).map fun (q : Addr × Int × Int) => V.ref q.1) (fun n σ H' => ∃ (z5 : Option V) (fs : Crn),σ = [some (.ref l1),some (.ref l2),some (.ref r),some (.int (i : Int)),some (.int (j : Int)),z5] ∧ Same H H' ∧ H' ps = some (.lst ((qs.take j).map fun (q : Addr × Int × Int) => V.ref q.1)) ∧ FrL H' r fs ∧ fs.map (·.2) = stN (crs rs) (crs qs) i ++ alN (crs qs) x.2 y.2 j ++ (leV u.2 x.2 y.2 :: evN (crs qs) u.2 x.2 y.2 n))
          ⟨_,_,rfl,S8.trans s9,f9,F8.mono s9,?_⟩ (fun n σ H' _ ⟨_,_,_,_,e,_⟩ => SqL.of e) ?_ ?_⟩
        · rw [List.map_append,e3,← vv]
          rfl
        · rintro n v σ HA hv ⟨z5,hs,rfl,sA,fA,FA,eA⟩
          rw [List.getElem?_map] at hv
          obtain ⟨m,hm,rfl⟩ := Option.map_eq_some_iff.mp hv
          have jm := (List.getElem?_eq_some_iff.mp hm).1
          rw [List.length_take] at jm
          rw [List.getElem?_take_of_lt (by omega)] at hm
          refine ⟨_,rfl,.inl ⟨rfl,_,SqL.of FA.lst⟩,_,rfl,_,rfl,l1,_,_,_,rfl,rfl,SqL.of (sA _ _ L1.lst),au,_,rfl,_,rfl,_,rfl,u.1,m.1,l2,rs,u.2,m.2,i,x,y,rfl,(L1.cn hu).mono sA,(L1.cn hm).mono sA,⟨L2.mono sA,by omega⟩,hx,hy,fun rB gB HB sB nB GB eB => ?_⟩
          have FB := FA.mono sB
          have el := FB.len eA
          rw [List.length_append,List.length_append,List.length_cons] at el
          have h1 := evN_len (crs qs) u.2 x.2 y.2 n
          have h2 := evV_len u.2 m.2 x.2 y.2
          refine ⟨r,rB,_,_,rfl,rfl,FB.lst,GB.lst,sz (by rw [el,GB.len eB]; omega),fun HC uC => ?_⟩
          refine ⟨_,_,rfl,uC.same (sA.trans sB) n1,uC.at ne (sB _ _ fA),FB.cat GB.fr uC,?_⟩
          rw [List.map_append,eA,eB,evN_succ (crs_at hm),List.append_assoc (_ ++ _)]
          rfl
        · rintro σ HA ⟨z5,hs,rfl,sA,fA,FA,eA⟩
          refine ⟨_,_,hs,rfl,sA,FA,?_⟩
          rw [eA,alN_succ (crs_at hu),List.length_map,List.length_take,Nat.min_eq_left (by omega),List.append_assoc]
      · rintro σ H3 ⟨z4,z5,gs,rfl,s3,F3,e3⟩
        refine ⟨_,_,_,gs,rfl,s3,F3,?_⟩
        rw [e3,stN_succ (crs_at hx) (crs_at hy),Int.toNat_natCast,hl1,crs_len]
    · rintro σ H2 ⟨z3,z4,z5,fs,rfl,s2,F2,e2⟩
      rw [show (((rs.map fun (q : Addr × Int × Int) => V.ref q.1).length : Int) - 1).toNat = rs.length - 1 by rw [hl2]; omega] at e2
      exact ⟨_,rfl,k r fs H2 s2 n1 F2 e2⟩
def orScope (s : Stmt) : Scope := match s with
  | .If (.BoolOp _ [_,.UnaryOp _ e _] _) _ _ _ => retScopeAll e
  | _ => { kind := .function,names := [],isGenerator := false,isCoroutine := false }
def asgScope (s : Stmt) : Scope := match s with
  | .Assign _ e _ => retScopeAll e
  | _ => { kind := .function,names := [],isGenerator := false,isCoroutine := false }
theorem tab_new {H : Hp} {t : Addr} {ls : List (Pos × Str)} (e : H t = some (.tbl #[])) : Tab H t ls := ⟨#[],e,trivial,fun _ _ => .inl rfl⟩
def capJ (n : Int) : Int := if (if (8 : Int) < n then 8 else n) > 1 then (if (8 : Int) < n then 8 else n) else 1
theorem capJ_le (n : Int) : 0 ≤ capJ n ∧ capJ n ≤ 8 := by
  unfold capJ
  split <;> split <;> omega
theorem bls {n : Nat} {zs : List V} (hl : zs.length = n) (h : ∀ (i : Nat) y,zs[i]? = some y → y = .bl true) : zs = (List.replicate n true).map V.bl := by
  refine List.ext_getElem? fun i => ?_
  by_cases hi : i < n
  · have h1 : zs[i]? = some zs[i] := List.getElem?_eq_getElem (by omega)
    rw [h1,h i _ h1,List.getElem?_map,List.getElem?_replicate,if_pos hi]
    rfl
  · rw [List.getElem?_eq_none (by omega),List.getElem?_eq_none (by simp; omega)]
def ltV (x y : Int × Int) : Prop := x.1 * y.2 < y.1 * x.2
theorem ltV_ne {x : Int × Int} : ¬ ltV x x := fun h => by
  unfold ltV at h
  omega
theorem ris_eq : ∀ {xs ys : List (Int × Int)},xs.Pairwise ltV → ys.Pairwise ltV → (∀ v,v ∈ xs ↔ v ∈ ys) → xs = ys
  | [],[],_,_,_ => rfl
  | [],y :: ys,_,_,h => absurd ((h y).mpr List.mem_cons_self) (by simp)
  | x :: xs,[],_,_,h => absurd ((h x).mp List.mem_cons_self) (by simp)
  | x :: xs,y :: ys,hx,hy,h => by
    obtain ⟨x1,x2⟩ := List.pairwise_cons.mp hx
    obtain ⟨y1,y2⟩ := List.pairwise_cons.mp hy
    have e : x = y := by
      rcases List.mem_cons.mp ((h x).mp List.mem_cons_self) with z | z
      · exact z
      · rcases List.mem_cons.mp ((h y).mpr List.mem_cons_self) with z' | z'
        · exact z'.symm
        · have a := y1 x z
          have b := x1 y z'
          unfold ltV at a b
          omega
    subst e
    rw [ris_eq x2 y2 fun v => ⟨fun hv => ?_,fun hv => ?_⟩]
    · rcases List.mem_cons.mp ((h v).mp (List.mem_cons_of_mem _ hv)) with z | z
      · subst z
        exact absurd (x1 _ hv) ltV_ne
      · exact z
    · rcases List.mem_cons.mp ((h v).mpr (List.mem_cons_of_mem _ hv)) with z | z
      · subst z
        exact absurd (y1 _ hv) ltV_ne
      · exact z
theorem ris_up {H : Hp} {l : Addr} {fs : Crn} (R : Ris H l fs) : (fs.map (·.2)).Pairwise ltV := List.pairwise_map.mpr R.up
theorem rp_frs {H : Hp} {l : Addr} {fs : Crn} (e : H l = some (.lst (fs.map fun (q : Addr × Int × Int) => V.ref q.1))) (h : ∀ q ∈ fs,H q.1 = some (.tup [.int q.2.1,.int q.2.2])) : Rp H 9 (.ref l) (.lst ((fs.map (·.2)).map fun (v : Int × Int) => D.tup [.int v.1,.int v.2])) := by
  refine .lst e (by simp) fun j x d hx hd => ?_
  rw [List.getElem?_map] at hx
  obtain ⟨q,hq,rfl⟩ := Option.map_eq_some_iff.mp hx
  rw [List.getElem?_map,List.getElem?_map,hq] at hd
  cases hd
  exact Rp.t2 (h q (List.mem_of_getElem? hq)) .int .int
def ckV (v : Int × Int) : List Key := [.inl v.1,.inl v.2]
theorem ckV_inj {v w : Int × Int} (h : ckV v = ckV w) : v = w := by
  unfold ckV at h
  simp only [List.cons.injEq,Sum.inl.injEq,and_true] at h
  exact Prod.ext h.1 h.2
theorem keys_put {kvs : List (List Key × V)} {k : List Key} {v : V} : (∀ x,x ∈ (putK kvs k v).map (·.1) ↔ x ∈ kvs.map (·.1) ∨ x = k) ∧ ((kvs.map (·.1)).Nodup → ((putK kvs k v).map (·.1)).Nodup) := by
  unfold putK
  split
  · rename_i h
    obtain ⟨y,hy,hk⟩ := List.any_eq_true.mp h
    have hk : y.1 = k := by simpa using hk
    have e : (kvs.map fun kv => if kv.1 = k then (kv.1,v) else kv).map (·.1) = kvs.map (·.1) := by
      rw [List.map_map]
      refine List.map_congr_left fun z _ => ?_
      show (if z.1 = k then (z.1,v) else z).1 = z.1
      split <;> rfl
    rw [e]
    refine ⟨fun x => ⟨.inl,fun z => ?_⟩,fun h => h⟩
    rcases z with z | z
    · exact z
    · rw [z,← hk]
      exact List.mem_map.mpr ⟨y,hy,rfl⟩
  · rename_i h
    have hk : k ∉ kvs.map (·.1) := fun z => by
      obtain ⟨y,hy,e⟩ := List.mem_map.mp z
      exact h (List.any_eq_true.mpr ⟨y,hy,by simpa using e⟩)
    rw [List.map_append]
    refine ⟨fun x => by simp,fun hn => ?_⟩
    rw [List.nodup_append]
    refine ⟨hn,by simp,fun a ha b hb => ?_⟩
    have : b = k := by simpa using hb
    rw [this]
    exact fun z => hk (z ▸ ha)
theorem keys_fold : ∀ (all : List DP) (kvs : List (List Key × V)),(kvs.map (·.1)).Nodup → (∀ x,x ∈ (all.foldl dpPut kvs).map (·.1) ↔ x ∈ kvs.map (·.1) ∨ x ∈ all.map (·.2.2.1)) ∧ ((all.foldl dpPut kvs).map (·.1)).Nodup
  | [],kvs,h => ⟨fun x => by simp,h⟩
  | a :: all,kvs,h => by
    have p := keys_put (kvs := kvs) (k := a.2.2.1) (v := a.2.2.2)
    obtain ⟨h1,h2⟩ := keys_fold all (dpPut kvs a) (p.2 h)
    refine ⟨fun x => ?_,h2⟩
    rw [List.foldl_cons,h1,List.map_cons,List.mem_cons]
    unfold dpPut
    rw [p.1 x]
    exact ⟨fun z => by
      rcases z with (z | z) | z
      · exact .inl z
      · exact .inr (.inl z)
      · exact .inr (.inr z),fun z => by
      rcases z with z | z | z
      · exact .inl (.inl z)
      · exact .inl (.inr z)
      · exact .inr z⟩
theorem valV_key {kvs : List (List Key × V)} {k : List Key} (h : k ∈ kvs.map (·.1)) : (valV kvs k).isSome = true := by
  rw [← valV_any]
  obtain ⟨y,hy,e⟩ := List.mem_map.mp h
  exact List.any_eq_true.mpr ⟨y,hy,by simpa using e⟩
theorem dp_lift {H : Hp} : ∀ (ys : List V) (fs : Crn),ys.length = fs.length → (∀ (i : Nat) y,ys[i]? = some y → ∃ (a : Addr) (q : Addr × Int × Int),y = .ref a ∧ fs[i]? = some q ∧ H a = some (.tup [.ref q.1,.bl true]) ∧ H q.1 = some (.tup [.int q.2.1,.int q.2.2])) →
    ∃ all : List DP,ys = all.map (fun x => V.ref x.1) ∧ (∀ x ∈ all,H x.1 = some (.tup [.ref x.2.1,x.2.2.2]) ∧ H x.2.1 = some (.tup (x.2.2.1.map kV))) ∧ all.map (·.2.2.1) = (fs.map (·.2)).map ckV
  | [],[],_,_ => ⟨[],rfl,(fun q h => nomatch h),rfl⟩
  | y :: ys,f :: fs,hl,h => by
    obtain ⟨all,e1,e2,e3⟩ := dp_lift ys fs (by simpa using hl) fun i z hz => h (i + 1) z (by simpa using hz)
    obtain ⟨a,q,rfl,q2,q3,q4⟩ := h 0 y rfl
    cases Option.some.inj q2
    refine ⟨(a,f.1,ckV f.2,.bl true) :: all,by rw [e1]; rfl,fun z hz => ?_,?_⟩
    · rcases List.mem_cons.mp hz with rfl | hz
      · exact ⟨q3,q4⟩
      · exact e2 z hz
    · rw [List.map_cons,e3]
      rfl
  | [],_ :: _,hl,_ => by cases hl
  | _ :: _,[],hl,_ => by cases hl
theorem due_mem {cs ds : List (Int × Int)} {v : Int × Int} : v ∈ stN ds cs (ds.length - 1) ++ stN cs ds (cs.length - 1) ++ prN cs ds cs.length ↔ v ∈ cdV cs ds := by
  unfold cdV
  simp only [List.mem_append]
  constructor
  · rintro ((h | h) | h)
    · exact .inl (.inr h)
    · exact .inr h
    · exact .inl (.inl h)
  · rintro ((h | h) | h)
    · exact .inr h
    · exact .inl (.inl h)
    · exact .inl (.inr h)
theorem line_at {H : Hp} {l : Addr} {qs : Crn} (L : LineM H l qs) : LineAt H l qs := ⟨L.lst,fun q h => ⟨(L.crn q h).1,sm_bits (L.crn q h).2.1,sm_bits (L.crn q h).2.2⟩⟩
theorem SameN.sq {H H' : Hp} (s : SameN H H') {l : Addr} {xs : List V} (L : SqL K H l xs) : SqL K H' l xs := by
  rcases L with (h | ⟨o,h⟩) | h
  · exact .inl (.inl (s.l h))
  · exact .inl (.inr ⟨o,s _ _ h fun ps q => by cases q⟩)
  · exact .inr h
theorem S_law : FnScope ["script","at","pool","one","other","due","corner","found","k","wanted","kept"] ["script"] (defScope (top 57)) := ⟨rfl,rfl,rfl,by decide +kernel,rfl,by decide +kernel,by decide +kernel⟩
theorem fn_law {t_put_in : Addr} (D_law : Df K mg "law" (top 57)) (F_law_pool : Fn P w K mg base "_law_pool" ["script","k"] 1 (spPool K)) (F_law_line : Fn P w K mg base "_law_line" ["pool","most"] 3 spLin) (F_law_second : Fn P w K mg base "_law_second" ["pool","line","most"] 4 spSec) (F_law_along : Fn P w K mg base "_law_along" ["one","other"] 4 spAlg) (F_law_lowest : Fn P w K mg base "_law_lowest" ["found"] 2 spLow2) (F_law_apart : Fn P w K mg base "_law_apart" ["here","there"] 1 spAprt) (F_candidates : Fn P w K mg base "candidates" ["one","other"] 10 (spCand t_put_in)) (F_law_is_fraction : Fn P w K mg base "_law_is_fraction" ["thing"] 2 spFrT) (F_law_less : Fn P w K mg base "_law_less" ["a","b"] 1 spLess) (T : Txt mg) : Fn P w K mg base "law" ["script"] 11 (spLawT K [t_put_in]) := by
  refine D_law.fn S_law (fun _ _ _ _ _ _ us hl => by obtain ⟨_,rfl⟩ := len1 hl; rfl) (fun vs H Q E h => ?_) (fun f cdv A outer s H vs Q E hr h => ?_)
  · obtain ⟨sa,ss,rfl,_⟩ := h
    rfl
  · obtain ⟨sa,ss,rfl,hS,hlen,htab,fin⟩ := h
    have CN : CompN (cxOf CX0 P w K mg base ["script","at","pool","one","other","due","corner","found","k","wanted","kept"] "law" (defScope (top 57)) f cdv A outer s H E).nox (extScope ((forBody ((forBody ((defBody (top 57)).getD 0 (.Pass ⟨0,0,0,0⟩))).getD 4 (.Pass ⟨0,0,0,0⟩))).getD 0 (.Pass ⟨0,0,0,0⟩))) [("corner",s.heap.objs.size + 1)] "some" [("corner",6)] :=
      ⟨by rfl,rfl,by decide +kernel,by decide +kernel,rfl,(fun p hp => by simp only [List.mem_cons,List.not_mem_nil,or_false] at hp; subst hp; rfl),by rfl,by decide +kernel,(fun p hp => by simp only [List.mem_cons,List.not_mem_nil,or_false] at hp; subst hp; exact ⟨rfl,rfl,.inr (.inl rfl),rfl,rfl⟩),⟨rfl,rfl⟩,rfl⟩
    have CM2 : CompN (cxOf CX0 P w K mg base ["script","at","pool","one","other","due","corner","found","k","wanted","kept"] "law" (defScope (top 57)) f cdv A outer s H E).nox (orScope ((forBody ((defBody (top 57)).getD 0 (.Pass ⟨0,0,0,0⟩))).getD 6 (.Pass ⟨0,0,0,0⟩))) [] "some" [] :=
      ⟨by rfl,rfl,by decide +kernel,by decide +kernel,rfl,(fun p hp => nomatch hp),by rfl,by decide +kernel,(fun p hp => nomatch hp),⟨rfl,rfl⟩,rfl⟩
    have CM3 : CompN (cxOf CX0 P w K mg base ["script","at","pool","one","other","due","corner","found","k","wanted","kept"] "law" (defScope (top 57)) f cdv A outer s H E).nox (asgScope ((forBody ((defBody (top 57)).getD 0 (.Pass ⟨0,0,0,0⟩))).getD 8 (.Pass ⟨0,0,0,0⟩))) [] "some" [] :=
      ⟨by rfl,rfl,by decide +kernel,by decide +kernel,rfl,(fun p hp => nomatch hp),by rfl,by decide +kernel,(fun p hp => nomatch hp),⟨rfl,rfl⟩,rfl⟩
    have CM4 : CompN (cxOf CX0 P w K mg base ["script","at","pool","one","other","due","corner","found","k","wanted","kept"] "law" (defScope (top 57)) f cdv A outer s H E).nox (orScope ((forBody ((defBody (top 57)).getD 0 (.Pass ⟨0,0,0,0⟩))).getD 9 (.Pass ⟨0,0,0,0⟩))) [("wanted",s.heap.objs.size + 2)] "some" [("wanted",9)] :=
      ⟨by rfl,rfl,by decide +kernel,by decide +kernel,rfl,(fun p hp => by simp only [List.mem_cons,List.not_mem_nil,or_false] at hp; subst hp; rfl),by rfl,by decide +kernel,(fun p hp => by simp only [List.mem_cons,List.not_mem_nil,or_false] at hp; subst hp; exact ⟨rfl,rfl,.inr (.inl rfl),rfl,rfl⟩),⟨rfl,rfl⟩,rfl⟩
    refine ⟨_,(pss_cons (ps_for PassesOwn.never rfl (pi_range3 rfl T.z_range (pa_cons pe_int (pa_cons (pe_callB (call_max2 rfl) (by rfl) T.z_max bt_max (pa_cons pe_int (pa_cons (pe_callB (call_min2 rfl) (by rfl) T.z_min bt_min (pa_cons (pe_callB call_len_seq (by rfl) T.z_len bt_len (pa_cons (pv 0) pa_nil)) (pa_cons pe_int pa_nil))) pa_nil))) (pa_cons pe_int pa_nil)))) (pg_name (i := 1) S_law.nd rfl (Or.inl rfl)) (pss_cons (ps_set (i := 2) S_law.nd rfl (Or.inl rfl) (pe_fn F_law_pool (hr.mono (by decide)) (by rfl) (pa_cons (pv 0) (pa_cons (pv 1) pa_nil)))) (pss_cons (ps_set (i := 3) S_law.nd rfl (Or.inl rfl) (pe_fn F_law_line (hr.mono (by decide)) (by rfl) (pa_cons (pv 2) (pa_cons pe_int pa_nil)))) (pss_cons (ps_set (i := 4) S_law.nd rfl (Or.inl rfl) (pe_fn F_law_second (hr.mono (by decide)) (by rfl) (pa_cons (pe_fn F_law_pool (hr.mono (by decide)) (by rfl) (pa_cons (pv 0) (pa_cons (pe_op op_add (pv 1) pe_int) pa_nil))) (pa_cons (pv 3) (pa_cons pe_int pa_nil))))) (pss_cons (ps_set (i := 5) S_law.nd rfl (Or.inl rfl) (pe_op op_catA (pe_fn F_law_along (hr.mono (by decide)) (by rfl) (pa_cons (pv 3) (pa_cons (pv 4) pa_nil))) (pe_fn F_law_along (hr.mono (by decide)) (by rfl) (pa_cons (pv 4) (pa_cons (pv 3) pa_nil))))) (pss_cons (ps_for PassesOwn.never rfl (pi_list (pv 3)) (pg_name (i := 6) S_law.nd rfl (Or.inr rfl)) (pss_one (ps_expr (pe_bm PySem.F.plainAttrs_list PySem.F.slot_list_extend PySem.F.type_list_extend mt_extendA (pv 5) (pa_cons (pe_compA rfl CN (pi_list (pv 4)) (fun fp s₀ H₀ => (pe_fn F_law_lowest (hr.mono (by decide)) (by rfl) (pa_cons (pe_fn F_law_apart (hr.mono (by decide)) (by rfl) (pa_cons (pe_op op_catTA (pv 1) (pe_tupA (pa_cons pe_int pa_nil))) (pa_cons (pe_op op_catTA (pv 0) (pe_tupA (pa_cons pe_int pa_nil))) pa_nil))) pa_nil)))) pa_nil))))) (pss_cons (ps_set (i := 7) S_law.nd rfl (Or.inl rfl) (pe_fn F_candidates (hr.mono (by decide)) (by rfl) (pa_cons (pe_callTy call_list_ofA (by rfl) T.z_list bt_list (pa_cons (pv 3) pa_nil)) (pa_cons (pe_callTy call_list_ofA (by rfl) T.z_list bt_list (pa_cons (pv 4) pa_nil)) pa_nil)))) (pss_cons (ps_if (pw_or (pt_not (pt_val (pe_callB call_isinst (by rfl) T.z_isinstance bt_isinstance (pa_cons (pv 7) (pa_cons (pe_ty T.z_list bt_list) pa_nil))))) (pw_or1 (pt_not (pt_val (pe_callB (call_all rfl) (by rfl) T.z_all bt_all (pa_cons (pe_compA rfl CM2 (pi_list (pv 7)) (fun fp s₀ H₀ => (pe_fn F_law_is_fraction (hr.mono (by decide)) (by rfl) (pa_cons (pv 0) pa_nil)))) pa_nil)))))).pt (pss_one (ps_ret pe_bl)) pss_nil) (pss_cons (ps_for PassesOwn.never rfl (pi_range2 rfl T.z_range (pa_cons pe_int (pa_cons (pe_callB call_len_seq (by rfl) T.z_len bt_len (pa_cons (pv 7) pa_nil)) pa_nil))) (pg_name (i := 8) S_law.nd rfl (Or.inl rfl)) (pss_one (ps_if (pt_not (pt_val (pe_fn F_law_less (hr.mono (by decide)) (by rfl) (pa_cons (pe_ix ix_list (pv 7) (pe_op op_sub (pv 8) pe_int) (fun _ _ => rfl)) (pa_cons (pe_ix ix_list (pv 7) (pv 8) (fun _ _ => rfl)) pa_nil))))) (pss_one (ps_ret pe_bl)) pss_nil))) (pss_cons (ps_set (i := 9) S_law.nd rfl (Or.inr rfl) (pe_callTy (call_dictP rfl hr.units) (by rfl) T.z_dict bt_dict (pa_cons (pe_compA rfl CM3 (pi_list (pv 5)) (fun fp s₀ H₀ => (pe_tupA (pa_cons (pv 0) (pa_cons pe_bl pa_nil))))) pa_nil))) (pss_cons (ps_if (pw_or (pt_cmpR op_ne (pe_callB call_lenD (by rfl) T.z_len bt_len (pa_cons (pv 9) pa_nil)) (pe_callB call_len_seq (by rfl) T.z_len bt_len (pa_cons (pv 7) pa_nil)) (nomark _)) (pw_or1 (pt_not (pt_val (pe_callB (call_all rfl) (by rfl) T.z_all bt_all (pa_cons (pe_compA rfl CM4 (pi_list (pv 7)) (fun fp s₀ H₀ => (pe_cmp (pc_din (hu_of hr) (pv 0) (pv 1)) (by rfl)))) pa_nil)))))).pt (pss_one (ps_ret pe_bl)) pss_nil) (pss_cons (ps_set (i := 10) S_law.nd rfl (Or.inl rfl) (pe_callTy call_list_ofA (by rfl) T.z_list bt_list (pa_cons (pv 7) pa_nil))) (pss_cons (ps_expr (pe_bm0 PySem.F.plainAttrs_list PySem.F.slot_list_clear PySem.F.type_list_clear mt_clearA (pv 7))) (pss_one (ps_if (pt_cmpR (op_neD hr.units10) (pe_fn F_candidates (hr.mono (by decide)) (by rfl) (pa_cons (pe_callTy call_list_ofA (by rfl) T.z_list bt_list (pa_cons (pv 3) pa_nil)) (pa_cons (pe_callTy call_list_ofA (by rfl) T.z_list bt_list (pa_cons (pv 4) pa_nil)) pa_nil))) (pv 10) (nomark _)) (pss_one (ps_ret pe_bl)) pss_nil))))))))))))))) (pss_one (ps_ret pe_bl))),?_⟩
    have TB : Tab H t_put_in lsP := tab_new (htab _ List.mem_cons_self)
    have hsl : (ss.map V.int).length = ss.length := List.length_map _
    refine ⟨_,rfl,sa,_,rfl,.inl hS,_,_,rfl,_,_,rfl,_,rfl,(capJ_le _).1,Int.le_trans (capJ_le (((ss.map V.int).length : Nat) : Int)).2 (by decide),for_range2 (fun i σ H' => ∃ (z1 z2 z3 z4 z5 z6 z7 z8 z9 z10 : Option V),σ = [some (.ref sa),z1,z2,z3,z4,z5,z6,z7,z8,z9,z10] ∧ SameN H H' ∧ Tab H' t_put_in lsP) ⟨_,_,_,_,_,_,_,_,_,_,rfl,(fun _ _ e _ => e),TB⟩ ?_ ?_⟩
    · rintro i σ H2 hi ⟨z1,z2,z3,z4,z5,z6,z7,z8,z9,z10,rfl,S2,T2⟩
      have hi : i < ((capJ (((ss.map V.int).length : Nat) : Int) + 1) / 2).toNat := hi
      have hJ := capJ_le (((ss.map V.int).length : Nat) : Int)
      have at0 : 0 ≤ (0 : Int) + (i : Int) * 2 ∧ (0 : Int) + (i : Int) * 2 ≤ 900 := by omega
      generalize (0 : Int) + (i : Int) * 2 = ai at at0 ⊢
      refine ⟨_,rfl,_,rfl,sa,ss,ai,rfl,S2.sq hS,⟨at0.1,by omega⟩,fun p H3 s3 n3 p3 => ?_⟩
      refine ⟨_,rfl,p,5,rfl,p3,⟨by decide,by decide⟩,fun l1 qs H4 b4 p4 n4 L4 h1 h5 => ?_⟩
      have S4 : Same H2 H4 := b4.same s3 n3
      refine ⟨_,rfl,_,rfl,_,_,rfl,rfl,sa,ss,ai + 1,rfl,(S2.trans (SameN.of S4)).sq hS,⟨by omega,by omega⟩,fun p5 H5 s5 n5 q5 => ?_⟩
      have n15 : l1 ≠ p5 := ne_of_none L4.lst n5
      refine ⟨_,rfl,p5,l1,qs,6,rfl,q5,L4.mono s5,n15,⟨h1,by omega⟩,⟨by decide,by decide⟩,fun l2 rs H6 b6 q6 n6 L6 g1 g6 => ?_⟩
      have S6 : Same H2 H6 := b6.same (S4.trans s5) (S4.free n5)
      have A1 : LineAt H6 l1 qs := line_at (line_but (L4.mono s5) b6 q5 n15.symm)
      have A2 : LineAt H6 l2 rs := line_at L6
      have c6 : qs.length ≤ 6 := by omega
      have d6 : rs.length ≤ 6 := by omega
      clear L4 L6 b4 b6 p3 p4 q5 q6
      refine ⟨_,rfl,_,rfl,l1,l2,qs,rs,rfl,⟨A1,h1,c6⟩,⟨A2,g1,d6⟩,fun d1 f1 H7 s7 n7 F7 e7 => ?_⟩
      refine ⟨_,rfl,_,rfl,l2,l1,rs,qs,rfl,⟨A2.mono s7,g1,d6⟩,⟨A1.mono s7,h1,c6⟩,fun d2 f2 H8 s8 n8 F8 e8 => ?_⟩
      have F7' := F7.mono s8
      have k6 : (crs qs).length ≤ 6 := by rw [crs_len]; exact c6
      have k7 : (crs rs).length ≤ 6 := by rw [crs_len]; exact d6
      have sl : ∀ (cs ds : List (Int × Int)) (i : Nat),i ≤ 6 → ds.length ≤ 6 → (stN cs ds i).length ≤ 216 := fun cs ds i hi hd => Nat.le_trans (stN_len cs ds i) (Nat.mul_le_mul hi (Nat.mul_le_mul hd hd))
      have pl : ∀ i,i ≤ 6 → (prN (crs qs) (crs rs) i).length ≤ 36 := fun i hi => Nat.le_trans (prN_len _ _ i) (Nat.mul_le_mul hi k7)
      have m1 := F7.len e7
      have m2 := F8.len e8
      have m3 := sl (crs rs) (crs qs) (rs.length - 1) (by omega) k6
      have m4 := sl (crs qs) (crs rs) (qs.length - 1) (by omega) k7
      refine ⟨d1,d2,_,_,rfl,rfl,F7'.lst,F8.lst,sz (by rw [m1,m2]; omega),fun d H9 s9 f9 n9 => ?_⟩
      have S8 := S6.trans (s7.trans s8)
      have F9 : FrL H9 d (f1 ++ f2) := ⟨by rw [f9,List.map_append],fun q hq => by
        rcases List.mem_append.mp hq with h | h
        · exact ((F7'.mono s9).fr q h)
        · exact ((F8.mono s9).fr q h)⟩
      have e9 : (f1 ++ f2).map (·.2) = stN (crs rs) (crs qs) (rs.length - 1) ++ stN (crs qs) (crs rs) (qs.length - 1) := by rw [List.map_append,e7,e8]
      have S9 := S8.trans s9
      have T69 := s7.trans (s8.trans s9)
      have nd : H2 d = none := S8.free n9
      have A19 := A1.mono T69
      have A29 := A2.mono T69
      have nd1 : l1 ≠ d := ne_of_none ((s7.trans s8) _ _ A1.lst) n9
      have nd2 : l2 ≠ d := ne_of_none ((s7.trans s8) _ _ A2.lst) n9
      have hl1 : (qs.map fun (q : Addr × Int × Int) => V.ref q.1).length = qs.length := List.length_map _
      have hl2 : (rs.map fun (q : Addr × Int × Int) => V.ref q.1).length = rs.length := List.length_map _
      refine ⟨_,rfl,l1,rfl,⟨_,SqL.of A19.lst⟩,for_list (K := K) (a := l1) (xs := qs.map fun (q : Addr × Int × Int) => V.ref q.1) (fun i σ H' => ∃ (z6 z7 z8 z9 z10 : Option V),σ = [some (.ref sa),some (.int ai),some (.ref p),some (.ref l1),some (.ref l2),some (.ref d),z6,z7,z8,z9,z10] ∧ Gr H9 H' d (stN (crs rs) (crs qs) (rs.length - 1) ++ stN (crs qs) (crs rs) (qs.length - 1) ++ prN (crs qs) (crs rs) i))
        ⟨_,_,_,_,_,rfl,.refl,_,F9,by rw [e9]; simp [prN]⟩ (fun i σ H' _ ⟨_,_,_,_,_,_,G⟩ => SqL.of (G.but _ _ nd1 A19.lst)) ?_ ?_⟩
      · rintro j v σ HA hv ⟨z6,z7,z8,z9,z10,rfl,bt,fs,FA,eA⟩
        rw [List.getElem?_map] at hv
        obtain ⟨u,hu,rfl⟩ := Option.map_eq_some_iff.mp hv
        have iu := (List.getElem?_eq_some_iff.mp hu).1
        have tA : SameT H9 HA := fun c xs e => bt c _ (fun z => by rw [z,F9.lst] at e; cases e) e
        have L2A : HA l2 = some (.lst (rs.map fun (q : Addr × Int × Int) => V.ref q.1)) := bt _ _ nd2 A29.lst
        refine ⟨_,rfl,.inl ⟨rfl,_,SqL.of FA.lst⟩,_,rfl,l2,rfl,⟨_,SqL.of L2A⟩,comp_R (K := K) (SqL.of L2A) (by rw [hl2]; omega) (fun j v H' => ∃ q : Addr × Int × Int,v = .ref q.1 ∧ ((crs rs).map fun d => (sqI u.2 d,(1 : Int)))[j]? = some q.2 ∧ Frq H' q) (fun j v H H' st ⟨q,x1,x2,x3,x4⟩ => ⟨q,x1,x2,st _ _ x3,x4⟩) ?_ ?_⟩
        · intro n x HB Kc hx sB kk
          rw [List.getElem?_map] at hx
          obtain ⟨v,hv,rfl⟩ := Option.map_eq_some_iff.mp hx
          have cu := A19.cn hu
          have cv := A29.cn hv
          have eu := sB _ _ (tA _ _ cu.1)
          have ev := sB _ _ (tA _ _ cv.1)
          refine ⟨_,rfl,sz (by simp),fun y1 HC sC fC _ => ?_⟩
          refine ⟨u.1,y1,_,_,rfl,rfl,sC _ _ eu,fC,⟨by simp,by simp⟩,sz (by simp),fun y2 HD sD fD _ => ?_⟩
          refine ⟨_,rfl,sz (by simp),fun y3 HE sE fE _ => ?_⟩
          refine ⟨v.1,y3,_,_,rfl,rfl,sE _ _ (sD _ _ (sC _ _ ev)),fE,⟨by simp,by simp⟩,sz (by simp),fun y4 HF sF fF _ => ?_⟩
          have b50 : ∀ {x : Int},bits x ≤ 50 → bits x ≤ 1500 := fun h => bits_le h (by decide)
          refine ⟨y2,y4,u.2.1,u.2.2,1,v.2.1,v.2.2,1,rfl,sF _ _ (sE _ _ fD),fF,⟨b50 cu.2.1,b50 cu.2.2,by decide,b50 cv.2.1,b50 cv.2.2,by decide⟩,fun y5 HG sG fG => ?_⟩
          refine ⟨y5,_,_,rfl,fG,⟨by decide,by decide⟩,fun y6 s w HI sI fI fr => ?_⟩
          have ea : apN u.2.1 u.2.2 1 v.2.1 v.2.2 1 = sqI u.2 v.2 := by
            unfold apN sqI
            grind
          rw [ea,show (1 : Int) * 1 * (1 * 1) = 1 from rfl] at fr
          have lw : Low (sqI u.2 v.2) 1 := ⟨by decide,by rw [Int.gcd_one]⟩
          obtain ⟨x1,x2⟩ := frac_unique (by decide) fr (frac_self lw)
          subst x1 x2
          refine kk _ HI (sC.trans (sD.trans (sE.trans (sF.trans (sG.trans sI))))) ⟨(y6,sqI u.2 v.2,1),rfl,?_,fI,lw,bits_le (sqI_bits cu.2 cv.2) (by decide),(by decide : bits 1 ≤ 2000)⟩
          rw [List.getElem?_map,crs_at hv]
          rfl
        · intro l3 ys HB n3 sB fB h3 hr
          obtain ⟨gs,rfl,g2,g3⟩ := frl_lift ys ((crs rs).map fun d => (sqI u.2 d,(1 : Int))) (by rw [h3,hl2,List.length_map,crs_len]) hr
          have GB : FrL HB l3 gs := ⟨fB,g2⟩
          have q1 := FA.len eA
          have q2 := GB.len g3
          rw [List.length_map] at q2
          rw [List.length_append,List.length_append] at q1
          have q3 := pl j (by omega)
          refine ⟨d,l3,_,_,rfl,rfl,sB _ _ FA.lst,fB,sz (by omega),fun HC uC => ⟨_,_,_,_,_,rfl,?_⟩⟩
          rw [prN_succ (crs_at hu),← List.append_assoc]
          exact Gr.step bt FA eA sB GB g3 uC
      rintro σ HD ⟨z6,z7,z8,z9,z10,rfl,btD,fd,FD,eD⟩
      rw [hl1] at eD
      have SD : Same H2 HD := btD.same S9 nd
      have A1D : LineAt HD l1 qs := ⟨btD _ _ nd1 A19.lst,fun q hq => ⟨btD _ _ (fun z => by have := (A19.crn q hq).1; rw [z,F9.lst] at this; cases this) (A19.crn q hq).1,(A19.crn q hq).2⟩⟩
      have A2D : LineAt HD l2 rs := ⟨btD _ _ nd2 A29.lst,fun q hq => ⟨btD _ _ (fun z => by have := (A29.crn q hq).1; rw [z,F9.lst] at this; cases this) (A29.crn q hq).1,(A29.crn q hq).2⟩⟩
      have TD : Tab HD t_put_in lsP := T2.same SD
      have lenD := FD.len eD
      rw [List.length_append,List.length_append,List.length_map] at lenD
      have lenD' := pl qs.length c6
      have lenE : fd.length ≤ 500 := by omega
      have memD : ∀ v,v ∈ fd.map (·.2) ↔ v ∈ cdV (crs qs) (crs rs) := fun v => by
        rw [eD]
        have z := due_mem (cs := crs qs) (ds := crs rs) (v := v)
        rw [crs_len,crs_len] at z
        exact z
      clear btD A1 A2 A19 A29 F7 F7' F8 F9 e9 e7 e8 m1 m2 m3 m4 T69 nd1 nd2 eD
      refine ⟨_,rfl,l1,_,rfl,.inl (SqL.of A1D.lst),fun m1 HE sE fE nE => ?_⟩
      refine ⟨_,rfl,l2,_,rfl,.inl (SqL.of (sE _ _ A2D.lst)),fun m2 HF sF fF nF => ?_⟩
      have sEF := sE.trans sF
      have B1 : LineAt HF m1 qs := ⟨sF _ _ fE,(A1D.mono sEF).crn⟩
      have B2 : LineAt HF m2 rs := ⟨fF,(A2D.mono sEF).crn⟩
      refine ⟨m1,m2,qs,rs,rfl,TD.same sEF,⟨B1,h1,c6⟩,⟨B2,g1,d6⟩,fun ga fs HG sG TG nG RG lG mG => ?_⟩
      have hgl : (fs.map fun (q : Addr × Int × Int) => V.ref q.1).length = fs.length := List.length_map _
      refine ⟨_,rfl,_,_,"list",rfl,Kn.lst RG.lst,nice_list,?_⟩
      refine ⟨_,rfl,iteFalse rfl ?_⟩
      refine ⟨_,rfl,ga,rfl,⟨_,SqL.of RG.lst⟩,comp_R (K := K) (SqL.of RG.lst) (by rw [hgl]; omega) (fun _ v _ => v = .bl true) (fun _ _ _ _ _ h => h) ?_ ?_⟩
      · intro n x HB Kc hx sB kk
        rw [List.getElem?_map] at hx
        obtain ⟨q,hq,rfl⟩ := Option.map_eq_some_iff.mp hx
        have fq := RG.fr q (List.mem_of_getElem? hq)
        exact ⟨_,rfl,q.1,q.2.1,q.2.2,rfl,sB _ _ fq.1,fq.2.1,kk _ HB (Same.refl _) rfl⟩
      intro l3 zs HH n3 sH f3 h3 hr
      rw [bls h3 hr] at f3
      refine ⟨l3,_,rfl,SqL.of f3,?_⟩
      rw [show (List.replicate (fs.map fun (q : Addr × Int × Int) => V.ref q.1).length true).all id = true by simp]
      refine ⟨_,rfl,iteFalse rfl ?_⟩
      have RH : HH ga = some (.lst (fs.map fun (q : Addr × Int × Int) => V.ref q.1)) := sH _ _ RG.lst
      refine ⟨_,rfl,ga,_,rfl,.inl (SqL.of RH),_,_,rfl,⟨by decide,by decide,by rw [hgl]; omega,by rw [hgl]; omega⟩,?_⟩
      refine for_range (n := ((((fs.map fun (q : Addr × Int × Int) => V.ref q.1).length : Nat) : Int) - 1).toNat) (lo := 1) (fun i σ H' => ∃ (z6 z8 z9 z10 : Option V),σ = [some (.ref sa),some (.int ai),some (.ref p),some (.ref l1),some (.ref l2),some (.ref d),z6,some (.ref ga),z8,z9,z10] ∧ H' = HH) ⟨_,_,_,_,rfl,rfl⟩ ?_ ?_
      · rintro n σ HB hn ⟨z6,z8,z9,z10,rfl,rfl⟩
        rw [hgl] at hn
        have hx : fs[n]? = some (fs[n]'(by omega)) := List.getElem?_eq_getElem (by omega)
        have hy : fs[n + 1]? = some (fs[n + 1]'(by omega)) := List.getElem?_eq_getElem (by omega)
        have up : ltF (fs[n]'(by omega)) (fs[n + 1]'(by omega)) := List.pairwise_iff_getElem.mp RG.up n (n + 1) (by omega) (by omega) (by omega)
        generalize fs[n]'(by omega) = x at hx up
        generalize fs[n + 1]'(by omega) = y at hy up
        have fx := RG.fr x (List.mem_of_getElem? hx)
        have fy := RG.fr y (List.mem_of_getElem? hy)
        have ax : atI (fs.map fun (q : Addr × Int × Int) => V.ref q.1) (1 + (n : Int) - 1) = some (.ref x.1) := by
          rw [show 1 + (n : Int) - 1 = (n : Int) by omega]
          exact atI_nat (by rw [List.getElem?_map,hx]; rfl)
        have ay : atI (fs.map fun (q : Addr × Int × Int) => V.ref q.1) (1 + (n : Int)) = some (.ref y.1) := by
          rw [show 1 + (n : Int) = ((n + 1 : Nat) : Int) by omega]
          exact atI_nat (by rw [List.getElem?_map,hy]; rfl)
        refine ⟨_,rfl,_,rfl,_,_,rfl,rfl,ga,_,_,_,rfl,rfl,SqL.of RH,ax,_,rfl,_,rfl,ga,_,_,_,rfl,rfl,SqL.of RH,ay,x.1,y.1,_,_,_,_,rfl,sH _ _ fx.1,sH _ _ fy.1,⟨fx.2.2.1,fx.2.2.2,fy.2.2.1,fy.2.2.2⟩,_,rfl,iteFalse ?_ ?_⟩
        · unfold ltF at up
          simp [up]
        · exact ⟨_,_,_,_,rfl,rfl⟩
      rintro σ HB ⟨z6,z8,z9,z10,rfl,rfl⟩
      have sFH : SameN HF HB := sG.trans (SameN.of sH)
      have sDH : SameN HD HB := (SameN.of sEF).trans sFH
      have dB := sDH.l FD.lst
      have hdl : (fd.map fun (q : Addr × Int × Int) => V.ref q.1).length = fd.length := List.length_map _
      refine ⟨_,rfl,d,rfl,⟨_,SqL.of dB⟩,comp_R (K := K) (SqL.of dB) (by rw [hdl]; omega) (fun i v H' => ∃ (a : Addr) (q : Addr × Int × Int),v = .ref a ∧ fd[i]? = some q ∧ H' a = some (.tup [.ref q.1,.bl true]) ∧ H' q.1 = some (.tup [.int q.2.1,.int q.2.2])) (fun i v H H' st ⟨a,q,x1,x2,x3,x4⟩ => ⟨a,q,x1,x2,st _ _ x3,st _ _ x4⟩) ?_ ?_⟩
      · intro n x HX Kc hx sX kk
        rw [List.getElem?_map] at hx
        obtain ⟨q,hq,rfl⟩ := Option.map_eq_some_iff.mp hx
        have fq := sDH.t (FD.fr q (List.mem_of_getElem? hq)).1
        exact ⟨_,rfl,sz (by simp),fun a HY sY fY nY => kk _ HY sY ⟨a,q,rfl,hq,fY,sY _ _ (sX _ _ fq)⟩⟩
      intro l4 zs4 HI n4 sI f4 h4 hr4
      obtain ⟨all,rfl,x1,x2⟩ := dp_lift zs4 fd (by rw [h4,hdl]) hr4
      rw [List.length_map] at h4
      refine ⟨l4,all,rfl,f4,by rw [h4,hdl]; omega,x1,fun wd HJ nJ sJ eJ => ?_⟩
      obtain ⟨k1,k2⟩ := keys_fold all [] List.nodup_nil
      generalize all.foldl dpPut [] = kvs at eJ k1 k2
      have kmem : ∀ v : Int × Int,ckV v ∈ kvs.map (·.1) ↔ v ∈ fs.map (·.2) := fun v => by
        rw [k1,x2,mG,← memD]
        simp only [List.map_nil,List.not_mem_nil,false_or]
        constructor
        · intro h
          obtain ⟨w',hw,e⟩ := List.mem_map.mp h
          rw [← ckV_inj e]
          exact hw
        · exact fun h => List.mem_map.mpr ⟨v,h,rfl⟩
      have klen : kvs.length = fs.length := by
        have nd1 : ((fs.map (·.2)).map ckV).Nodup := by
          refine List.pairwise_map.mpr ((ris_up RG).imp fun {a b} h z => ?_)
          rw [ckV_inj z] at h
          exact ltV_ne h
        have pm := (List.perm_ext_iff_of_nodup k2 nd1).mpr fun x => by
          constructor
          · intro h
            have h' := h
            rw [k1,x2] at h'
            simp only [List.map_nil,List.not_mem_nil,false_or] at h'
            obtain ⟨v,hv,rfl⟩ := List.mem_map.mp h'
            exact List.mem_map.mpr ⟨v,(kmem v).mp h,rfl⟩
          · intro h
            obtain ⟨v,hv,rfl⟩ := List.mem_map.mp h
            exact (kmem v).mpr hv
        have := pm.length_eq
        simpa using this
      have sBJ := sI.trans sJ
      have gJ := sBJ _ _ RH
      refine ⟨_,rfl,wd,kvs,rfl,eJ,_,rfl,ga,_,rfl,.inl (SqL.of gJ),rfl,_,rfl,iteFalse (by rw [hgl,klen]; simp) ?_⟩
      refine ⟨_,rfl,ga,rfl,⟨_,SqL.of gJ⟩,comp_R (K := K) (SqL.of gJ) (by rw [hgl]; omega) (fun _ v _ => v = .bl true) (fun _ _ _ _ _ h => h) ?_ ?_⟩
      · intro n x HX Kc hx sX kk
        rw [List.getElem?_map] at hx
        obtain ⟨q,hq,rfl⟩ := Option.map_eq_some_iff.mp hx
        have fq := RG.fr q (List.mem_of_getElem? hq)
        refine ⟨_,rfl,_,rfl,wd,_,rfl,DGet.t (k := ckV q.2) (sX _ _ eJ) (sX _ _ (sBJ _ _ (sH _ _ fq.1))),kk _ HX (Same.refl _) ?_⟩
        rw [valV_key ((kmem q.2).mpr (List.mem_map.mpr ⟨q,List.mem_of_getElem? hq,rfl⟩))]
      intro l5 zs5 HK n5 sK f5 h5 hr5
      rw [bls h5 hr5] at f5
      refine ⟨l5,_,rfl,SqL.of f5,?_⟩
      rw [show (List.replicate (fs.map fun (q : Addr × Int × Int) => V.ref q.1).length true).all id = true by simp]
      refine ⟨_,rfl,iteFalse rfl ?_⟩
      have gK := sK _ _ gJ
      refine ⟨_,rfl,ga,_,rfl,.inl (SqL.of gK),fun kp HL sL fL nL => ?_⟩
      have sBL := sBJ.trans (sK.trans sL)
      refine ⟨_,rfl,.inl ⟨rfl,_,SqL.of (sL _ _ gK)⟩,ga,_,rfl,rfl,sL _ _ gK,fun HM uM => ?_⟩
      have kpn : kp ≠ ga := (ne_of_none gK nL).symm
      have sFM : SameN HF HM := fun c o e n => uM.at (ne_of_none e nG) (sBL _ _ (sFH c o e n))
      have TM : Tab HM t_put_in lsP := tab_updL (TG.same (sH.trans sBL)) uM
      have A1M := sFM.line (A1D.mono sEF)
      have A2M := sFM.line (A2D.mono sEF)
      refine ⟨_,rfl,l1,_,rfl,.inl (SqL.of A1M.lst),fun o1 HN sN fN nN => ?_⟩
      refine ⟨_,rfl,l2,_,rfl,.inl (SqL.of (sN _ _ A2M.lst)),fun o2 HO sO fO nO => ?_⟩
      have sNO := sN.trans sO
      refine ⟨o1,o2,qs,rs,rfl,TM.same sNO,⟨⟨sO _ _ fN,(A1M.mono sNO).crn⟩,h1,c6⟩,⟨⟨fO,(A2M.mono sNO).crn⟩,g1,d6⟩,fun gb fs2 HP sP TP nP RP lP mP => ?_⟩
      have sMP : SameN HM HP := (SameN.of sNO).trans sP
      have es : fs2.map (·.2) = fs.map (·.2) := ris_eq (ris_up RP) (ris_up RG) fun v => by rw [mP,mG]
      have r1 := rp_frs RP.lst fun q hq => (RP.fr q hq).1
      have r2 := rp_frs (H := HP) (l := kp) (fs := fs) (sMP.l (uM.at kpn fL)) fun q hq => sMP.t (uM.t _ _ (sBL _ _ (sH _ _ (RG.fr q hq).1)))
      rw [es] at r1
      refine ⟨_,rfl,_,_,r1,r2,_,rfl,iteFalse (by rw [deq_self]; rfl) ?_⟩
      refine ⟨_,_,_,_,_,_,_,_,_,_,rfl,?_,TP⟩
      exact (S2.trans ((SameN.of (SD.trans sEF)).trans sFM)).trans sMP
    · rintro σ H2 ⟨z1,z2,z3,z4,z5,z6,z7,z8,z9,z10,rfl,S2,T2⟩
      exact fin _
end
theorem hLeft : PySem.W.LeftO PySem.Challenge.rw_oneleash_k39_candidates_told.prog hView hLoose (fun _ => true) (PySem.W.Hook.obs (Hd.hookT hFacts hGood)) (PySem.W.Hook.val (Hd.hookT hFacts hGood)) 100000 := hAll
theorem hTabOk {K : PySem.W.Frag} (FK : hFacts K = hGood) : hTabs.all (Hd.tabFact K) = true := (congrArg Prod.fst (congrArg Prod.snd (congrArg Prod.snd FK)))
theorem all_of {P : Program} {w : World} {K0 K : PySem.W.Frag} (eK : K = Hd.strip K0) (FK0 : hFacts K0 = hGood) {h : Heap} {mg : Str → Option Value} {fa : Addr} (X : K.In h) (G : h.Ns mainGlobals mg) (hfa : mg "law" = some (.ref fa)) :
    ∃ fd : FuncData,(∀ (s : Shared) (v : Value),BindsTo s fd ⟨[v],[]⟩ [("script",v)]) ∧ ∀ base : Heap,K.In base → base.Ns mainGlobals mg → FnOk P w K mg base CX0 11 fa fd ["script"] (spLawT K (hTabs.map (Hd.tabP K0))) := by
  have FK : (hF0 K,hF1 K,hF2 K0) = hGood := by
    rw [eK]
    exact FK0
  have H0 : (hNames0.map (fun p => Hd.fnFact K p.1) : List (Option (Arguments × List Stmt × Scope × Value))) = hNames0.map (fun p => some (defArgs (top p.2),defBody (top p.2),defScope (top p.2),.none)) := (congrArg Prod.fst FK)
  have H1 : (hNamesD.map (fun p => Hd.fnFactD K p.1) : List (Option (Arguments × List Stmt × Scope × List V))) = hNamesD.map (fun p => some (defArgs (top p.2.1),defBody (top p.2.1),defScope (top p.2.1),p.2.2)) := (congrArg Prod.fst (congrArg Prod.fst (congrArg Prod.snd FK)))
  have H2 : (hExc.all (Hd.excFact K) : Bool) = true := (congrArg Prod.fst (congrArg Prod.snd (congrArg Prod.fst (congrArg Prod.snd FK))))
  have H3 : (hNo.all (Hd.noFact K) : Bool) = true := (congrArg Prod.fst (congrArg Prod.snd (congrArg Prod.snd (congrArg Prod.fst (congrArg Prod.snd FK)))))
  have H4 : (hTup.map (fun p => Hd.tupFact K p.1) : List (Option (List V))) = hTup.map (fun p => some p.2) := (congrArg Prod.snd (congrArg Prod.snd (congrArg Prod.snd (congrArg Prod.fst (congrArg Prod.snd FK)))))
  have H5 : (hTabs.all (Hd.tabFact K0) : Bool) = true := (congrArg Prod.fst (congrArg Prod.snd (congrArg Prod.snd FK)))
  have H6 : (Hd.bltFact (Hd.strip K0) : Bool) = true := (congrArg Prod.fst (congrArg Prod.snd (congrArg Prod.snd (congrArg Prod.snd FK))))
  have H7 : (Hd.apart (hTabs.map (Hd.tabP K0)) : Bool) = true := (congrArg Prod.snd (congrArg Prod.snd (congrArg Prod.snd (congrArg Prod.snd FK))))
  have D_is_whole : Df K mg "is_whole" (top 5) := Hd.df_of X G (Hd.at_map H0 0 rfl)
  have D_common_divisor : Df K mg "common_divisor" (top 6) := Hd.df_of X G (Hd.at_map H0 1 rfl)
  have D_plus : Df K mg "plus" (top 8) := Hd.df_of X G (Hd.at_map H0 2 rfl)
  have D_minus : Df K mg "minus" (top 9) := Hd.df_of X G (Hd.at_map H0 3 rfl)
  have D_times : Df K mg "times" (top 10) := Hd.df_of X G (Hd.at_map H0 4 rfl)
  have D_over : Df K mg "over" (top 11) := Hd.df_of X G (Hd.at_map H0 5 rfl)
  have D_less : Df K mg "less" (top 12) := Hd.df_of X G (Hd.at_map H0 6 rfl)
  have D_floor_of : Df K mg "floor_of" (top 13) := Hd.df_of X G (Hd.at_map H0 7 rfl)
  have D_is_ratio : Df K mg "is_ratio" (top 14) := Hd.df_of X G (Hd.at_map H0 8 rfl)
  have D_last_of : Df K mg "last_of" (top 16) := Hd.df_of X G (Hd.at_map H0 9 rfl)
  have D_is_place : Df K mg "is_place" (top 18) := Hd.df_of X G (Hd.at_map H0 10 rfl)
  have D_look_at_place : Df K mg "look_at_place" (top 19) := Hd.df_of X G (Hd.at_map H0 11 rfl)
  have D_number_at : Df K mg "number_at" (top 20) := Hd.df_of X G (Hd.at_map H0 12 rfl)
  have D_point_at : Df K mg "point_at" (top 21) := Hd.df_of X G (Hd.at_map H0 13 rfl)
  have D_step_from : Df K mg "step_from" (top 22) := Hd.df_of X G (Hd.at_map H0 14 rfl)
  have D_inner_product : Df K mg "inner_product" (top 23) := Hd.df_of X G (Hd.at_map H0 15 rfl)
  have D_square_between : Df K mg "square_between" (top 24) := Hd.df_of X G (Hd.at_map H0 16 rfl)
  have D_square_of : Df K mg "square_of" (top 25) := Hd.df_of X G (Hd.at_map H0 17 rfl)
  have D_nearest_part : Df K mg "nearest_part" (top 26) := Hd.df_of X G (Hd.at_map H0 18 rfl)
  have D_least_along : Df K mg "least_along" (top 27) := Hd.df_of X G (Hd.at_map H0 19 rfl)
  have D_first_number : Df K mg "first_number" (top 29) := Hd.df_of X G (Hd.at_map H0 20 rfl)
  have D_put_in : DfT K mg "put_in" (top 30) (Hd.tabP K0 "put_in") := by
    subst eK
    exact Hd.dft_of X G (Hd.at_map H0 21 rfl) (Hd.at_all H5 0 rfl)
  have D_square_apart : Df K mg "square_apart" (top 31) := Hd.df_of X G (Hd.at_map H0 22 rfl)
  have D_least_beside : Df K mg "least_beside" (top 32) := Hd.df_of X G (Hd.at_map H0 23 rfl)
  have D_even_squares : Df K mg "even_squares" (top 33) := Hd.df_of X G (Hd.at_map H0 24 rfl)
  have D_squares_beside : Df K mg "squares_beside" (top 34) := Hd.df_of X G (Hd.at_map H0 25 rfl)
  have D_stretches_of : Df K mg "stretches_of" (top 35) := Hd.df_of X G (Hd.at_map H0 26 rfl)
  have D_candidates : Df K mg "candidates" (top 36) := Hd.df_of X G (Hd.at_map H0 27 rfl)
  have D_law_pool : Df K mg "_law_pool" (top 38) := Hd.df_of X G (Hd.at_map H0 28 rfl)
  have D_law_take : Df K mg "_law_take" (top 39) := Hd.df_of X G (Hd.at_map H0 29 rfl)
  have D_law_corner : Df K mg "_law_corner" (top 40) := Hd.df_of X G (Hd.at_map H0 30 rfl)
  have D_law_line : Df K mg "_law_line" (top 41) := Hd.df_of X G (Hd.at_map H0 31 rfl)
  have D_law_second : Df K mg "_law_second" (top 42) := Hd.df_of X G (Hd.at_map H0 32 rfl)
  have D_law_whole : Df K mg "_law_whole" (top 43) := Hd.df_of X G (Hd.at_map H0 33 rfl)
  have D_law_shared : Df K mg "_law_shared" (top 44) := Hd.df_of X G (Hd.at_map H0 34 rfl)
  have D_law_is_fraction : Df K mg "_law_is_fraction" (top 45) := Hd.df_of X G (Hd.at_map H0 35 rfl)
  have D_law_is_pair : Df K mg "_law_is_pair" (top 46) := Hd.df_of X G (Hd.at_map H0 36 rfl)
  have D_law_are_pairs : Df K mg "_law_are_pairs" (top 47) := Hd.df_of X G (Hd.at_map H0 37 rfl)
  have D_law_less : Df K mg "_law_less" (top 48) := Hd.df_of X G (Hd.at_map H0 38 rfl)
  have D_law_near : Df K mg "_law_near" (top 49) := Hd.df_of X G (Hd.at_map H0 39 rfl)
  have D_law_point : Df K mg "_law_point" (top 50) := Hd.df_of X G (Hd.at_map H0 40 rfl)
  have D_law_apart : Df K mg "_law_apart" (top 51) := Hd.df_of X G (Hd.at_map H0 41 rfl)
  have D_law_square : Df K mg "_law_square" (top 52) := Hd.df_of X G (Hd.at_map H0 42 rfl)
  have D_law_least : Df K mg "_law_least" (top 53) := Hd.df_of X G (Hd.at_map H0 43 rfl)
  have D_law_lowest : Df K mg "_law_lowest" (top 54) := Hd.df_of X G (Hd.at_map H0 44 rfl)
  have D_law_as_far : Df K mg "_law_as_far" (top 55) := Hd.df_of X G (Hd.at_map H0 45 rfl)
  have D_law_along : Df K mg "_law_along" (top 56) := Hd.df_of X G (Hd.at_map H0 46 rfl)
  have D_law : Df K mg "law" (top 57) := Hd.df_of X G (Hd.at_map H0 47 rfl)
  have D_ratio : DfD K mg "ratio" (top 7) [.int 1] := Hd.dfd_of X G (Hd.at_map H1 0 rfl)
  have O_NoRatio : ExcC K mg "NoRatio" (Hd.cls K "NoRatio") := Hd.exc_of X G (Hd.at_all H2 0 rfl)
  have O_NoPlace : ExcC K mg "NoPlace" (Hd.cls K "NoPlace") := Hd.exc_of X G (Hd.at_all H2 1 rfl)
  have T : Txt mg := ⟨PySem.W.mg_none_of X G (Hd.no_of (Hd.at_all H3 0 rfl)),PySem.W.mg_none_of X G (Hd.no_of (Hd.at_all H3 1 rfl)),PySem.W.mg_none_of X G (Hd.no_of (Hd.at_all H3 2 rfl)),PySem.W.mg_none_of X G (Hd.no_of (Hd.at_all H3 3 rfl)),PySem.W.mg_none_of X G (Hd.no_of (Hd.at_all H3 4 rfl)),PySem.W.mg_none_of X G (Hd.no_of (Hd.at_all H3 5 rfl)),PySem.W.mg_none_of X G (Hd.no_of (Hd.at_all H3 6 rfl)),PySem.W.mg_none_of X G (Hd.no_of (Hd.at_all H3 7 rfl)),PySem.W.mg_none_of X G (Hd.no_of (Hd.at_all H3 8 rfl)),PySem.W.mg_none_of X G (Hd.no_of (Hd.at_all H3 9 rfl)),PySem.W.mg_none_of X G (Hd.no_of (Hd.at_all H3 10 rfl)),PySem.W.mg_none_of X G (Hd.no_of (Hd.at_all H3 11 rfl)),PySem.W.mg_none_of X G (Hd.no_of (Hd.at_all H3 12 rfl)),PySem.W.mg_none_of X G (Hd.no_of (Hd.at_all H3 13 rfl))⟩
  have BF : BltF K mg := by
    subst eK
    exact Hd.blt_of X G H6
  refine law_fd h hfa fun base => ?_
  have F_is_whole := fn_is_whole (P := P) (w := w) (base := base) D_is_whole T
  have F_common_divisor := fn_common_divisor (P := P) (w := w) (base := base) D_common_divisor T
  have F_ratio := fn_ratio (P := P) (w := w) (base := base) D_ratio O_NoRatio F_is_whole F_common_divisor
  have F_floor_of := fn_floor_of (P := P) (w := w) (base := base) D_floor_of
  have F_is_ratio := fn_is_ratio (P := P) (w := w) (base := base) D_is_ratio F_is_whole F_common_divisor T
  have F_last_of := fn_last_of (P := P) (w := w) (base := base) D_last_of T
  have F_is_place := fn_is_place (P := P) (w := w) (base := base) D_is_place F_is_ratio F_last_of
  have F_look_at_place := fn_look_at_place (P := P) (w := w) (base := base) D_look_at_place O_NoPlace F_is_place
  have F_plus := fn_plus (P := P) (w := w) (base := base) D_plus F_ratio
  have F_minus := fn_minus (P := P) (w := w) (base := base) D_minus F_ratio
  have F_times := fn_times (P := P) (w := w) (base := base) D_times F_ratio
  have F_over := fn_over (P := P) (w := w) (base := base) D_over F_ratio
  have F_less := fn_less (P := P) (w := w) (base := base) D_less
  have F_number_at := fn_number_at (P := P) (w := w) (base := base) D_number_at F_ratio
  have F_point_at := fn_point_at (P := P) (w := w) (base := base) D_point_at F_look_at_place F_floor_of F_last_of F_number_at T
  have F_step_from := fn_step_from (P := P) (w := w) (base := base) D_step_from F_minus
  have F_inner_product := fn_inner_product (P := P) (w := w) (base := base) D_inner_product F_plus F_times
  have F_square_between := fn_square_between (P := P) (w := w) (base := base) D_square_between F_step_from F_inner_product
  have F_square_of := fn_square_of (P := P) (w := w) (base := base) D_square_of F_square_between F_point_at
  have F_nearest_part := fn_nearest_part (P := P) (w := w) (base := base) D_nearest_part F_step_from F_inner_product F_over F_less
  have F_least_along := fn_least_along (P := P) (w := w) (base := base) D_least_along F_point_at F_nearest_part F_plus F_times F_minus F_square_between
  have F_first_number := fn_first_number (P := P) (w := w) (base := base) D_first_number T
  have F_put_in := fn_put_in (P := P) (w := w) (base := base) D_put_in BF F_first_number (less_weak F_less) T
  have F_square_apart := fn_square_apart (P := P) (w := w) (base := base) D_square_apart F_square_of
  have F_least_beside := fn_least_beside (P := P) (w := w) (base := base) D_least_beside F_least_along
  have F_even_squares := fn_even_squares (P := P) (w := w) (base := base) D_even_squares F_square_apart F_ratio (less_weak F_less) F_square_of
  have F_squares_beside := fn_squares_beside (P := P) (w := w) (base := base) D_squares_beside F_least_beside F_even_squares T
  have F_stretches_of := fn_stretches_of (P := P) (w := w) (base := base) D_stretches_of T
  have F_candidates := fn_candidates (P := P) (w := w) (base := base) D_candidates F_square_apart F_stretches_of F_squares_beside F_put_in T
  have F_law_pool := fn_law_pool (P := P) (w := w) (base := base) D_law_pool T
  have F_law_take := fn_law_take (P := P) (w := w) (base := base) D_law_take
  have F_law_corner := fn_law_corner (P := P) (w := w) (base := base) D_law_corner F_law_take
  have F_law_line := fn_law_line (P := P) (w := w) (base := base) D_law_line F_law_take F_law_corner T
  have F_law_second := fn_law_second (P := P) (w := w) (base := base) D_law_second F_law_take F_law_line T
  have F_law_whole := fn_law_whole (P := P) (w := w) (base := base) D_law_whole T
  have F_law_shared := fn_law_shared (P := P) (w := w) (base := base) D_law_shared T
  have F_law_less := fn_law_less (P := P) (w := w) (base := base) D_law_less
  have F_law_lowest := fn_law_lowest (P := P) (w := w) (base := base) D_law_lowest F_law_shared
  have F_law_apart := fn_law_apart (P := P) (w := w) (base := base) D_law_apart
  have F_law_is_fraction := fn_law_is_fraction (P := P) (w := w) (base := base) D_law_is_fraction F_law_whole F_law_shared T
  have F_law_point := fn_law_point (P := P) (w := w) (base := base) D_law_point T
  have F_law_least := fn_law_least (P := P) (w := w) (base := base) D_law_least F_law_less F_law_apart F_law_point T
  have F_law_as_far := fn_law_as_far (P := P) (w := w) (base := base) D_law_as_far F_law_lowest F_law_apart F_law_point T
  have F_law_along := fn_law_along (P := P) (w := w) (base := base) D_law_along F_law_lowest F_law_least F_law_as_far T
  exact fn_law D_law F_law_pool F_law_line F_law_second F_law_along F_law_lowest F_law_apart F_candidates F_law_is_fraction F_law_less T
end K39
end
open PySem PySem.W PyProof.Rows
set_option maxRecDepth 100000 in
set_option maxHeartbeats 0 in
theorem PySem.Challenge.cw_oneleash_k39_candidates_told_holds : PySem.Challenge.rw_oneleash_k39_candidates_told.Holds := by
  w_on; o_law
  refine holds_open (q := K39.hView) (loose := K39.hLoose) (Xt := fun _ => true) (XP := fun _ _ => True) (Yf := Hook.obs (Hd.hookT K39.hFacts K39.hGood)) (Ya := Hook.val (Hd.hookT K39.hFacts K39.hGood)) (YP := Hook.says (Hd.hookT K39.hFacts K39.hGood)) (N := 100000) K39.hLeft (Hook.of _) (Hook.keeps _) (fun _ _ => trivial) (fun _ _ _ _ _ => trivial) (by rfl) (by rfl) (by rfl) (fun _ _ => recFacts_nil rfl) (by rfl) (by first | assumption | decide +kernel) (by decide +kernel) ⟨rfl,rfl,rfl,rfl,rfl,by decide +kernel⟩ ?hw ?hc
  case hw => w_witness2
  exact Hd.law_walkT (names := K39.hTabs) (l := PySem.Challenge.rw_oneleash_k39_candidates_told) (k := 11) ⟨rfl,by decide,by decide,rfl⟩ rfl rfl (fun K FK => K39.hTabOk FK) fun K FK w mg fa h KX G hmg => K39.all_of rfl FK KX G hmg
