import PyProof.Rows.All
import Wide.All
import OpenK.AllK
import Wide.FinOn
import Lean
import PyProof.EqAt
import PyProof.EqKinds
import PyProof.TupleCall
import PyProof.ExcArgsOwn
import KE.KTryMore
import PyProof.NsDelKeeps
import PyProof.ConsumeWalk
import PyProof.ZipIter
import PyProof.WalksEnum
import PyProof.EnumMake
import PyProof.NeKinds
import PyProof.DictWalks
import KE.KLam
import PyProof.CompMap
import KE.KRevIter
import PyProof.ListRange
import PyProof.WalkInts
import PyProof.MinMaxWalk
import PyProof.Rows.CallKwBuiltin
import KE.KSliceW
import PyProof.ReprRoads
import PyProof.CallStr
import PySem.Challenge.RW_oneleash_k35_whole_papers_of_hops
section
set_option Elab.async false
set_option linter.all false
set_option maxRecDepth 100000
namespace L2
open PySem PySem.Spec PyProof.Rows
abbrev Key := Sum Int Str
def keyIs : Key → Value → Bool
  | .inl k,v => Value.isInt k v
  | .inr x,v => Value.isStrOf x v
def keyH (w : World) : Key → Int
  | .inl k => hashInt k
  | .inr x => hashStr w x
theorem keyIs_shape : ∀ {k : Key} {v : Value},keyIs k v = true → (∃ i t,k = Sum.inl i ∧ v = Value.int i t) ∨ (∃ x t,k = Sum.inr x ∧ v = Value.str x t)
  | .inl i,v,h => by
    obtain ⟨t,e⟩ := Value.isInt_shape (k := i) (v := v) h
    exact .inl ⟨i,t,rfl,e⟩
  | .inr x,v,h => by
    obtain ⟨t,e⟩ := Value.isStrOf_shape (x := x) (v := v) h
    exact .inr ⟨x,t,rfl,e⟩
theorem keyIs_int (i : Int) (t : Tok) : keyIs (.inl i) (.int i t) = true := by simp [keyIs,Value.isInt]
theorem keyIs_str (x : Str) (t : Tok) : keyIs (.inr x) (.str x t) = true := by simp [keyIs,Value.isStrOf]
theorem key_ll (a b : Int) : decide ((Sum.inl a : Key) = Sum.inl b) = (a == b) := by
  by_cases e : a = b
  · subst e; simp
  · have h : ¬ (Sum.inl a : Key) = Sum.inl b := fun q => e (Sum.inl.inj q)
    rw [decide_eq_false h]
    exact (beq_eq_false_iff_ne.mpr e).symm
theorem key_rr (a b : Str) : decide ((Sum.inr a : Key) = Sum.inr b) = decide (a = b) := by
  by_cases e : a = b
  · subst e; simp
  · have h : ¬ (Sum.inr a : Key) = Sum.inr b := fun q => e (Sum.inr.inj q)
    rw [decide_eq_false h,decide_eq_false e]
theorem key_lr (a : Int) (b : Str) : decide ((Sum.inl a : Key) = Sum.inr b) = false := decide_eq_false (fun q => nomatch q)
theorem key_rl (a : Str) (b : Int) : decide ((Sum.inr a : Key) = Sum.inl b) = false := decide_eq_false (fun q => nomatch q)
def mixKind (prog : Program) (w : World) : PySem.KeyKind prog w Key where
  is := keyIs
  hash := keyH w
  inj := fun v a b ha hb => by
    rcases keyIs_shape ha with ⟨i,t,rfl,rfl⟩ | ⟨x,t,rfl,rfl⟩
    · rcases keyIs_shape hb with ⟨j,u,rfl,e⟩ | ⟨y,u,rfl,e⟩
      · injection e with e1 _; rw [e1]
      · exact nomatch e
    · rcases keyIs_shape hb with ⟨j,u,rfl,e⟩ | ⟨y,u,rfl,e⟩
      · exact nomatch e
      · injection e with e1 _; rw [e1]
  byValue := fun k v h => by
    rcases keyIs_shape h with ⟨i,t,rfl,rfl⟩ | ⟨x,t,rfl,rfl⟩ <;> rfl
  pyHash := fun hv h => by
    rcases keyIs_shape hv with ⟨i,t,rfl,rfl⟩ | ⟨x,t,rfl,rfl⟩
    · exact wpAny_pyHash_int h
    · exact wpAny_pyHash_str h
  eqBool := fun hu hv h => by
    rcases keyIs_shape hu with ⟨i,t,rfl,rfl⟩ | ⟨x,t,rfl,rfl⟩
    · rcases keyIs_shape hv with ⟨j,u,rfl,rfl⟩ | ⟨y,u,rfl,rfl⟩
      · rw [key_ll] at h; exact wpAny_eqBool_int h
      · rw [key_lr] at h; exact SeqAt.EqAt.int_str i t y u _ _ _ _ h
    · rcases keyIs_shape hv with ⟨j,u,rfl,rfl⟩ | ⟨y,u,rfl,rfl⟩
      · rw [key_rl] at h; exact SeqAt.EqAt.str_int x t j u _ _ _ _ h
      · rw [key_rr] at h; exact wpAny_eqBool_str h
  «strs» := fun k x t v h => by
    rcases keyIs_shape h with ⟨i,u,rfl,e⟩ | ⟨y,u,rfl,e⟩
    · exact nomatch e
    · injection e with e1 _
      subst e1
      cases v <;> rfl
theorem mixKind_int (prog : Program) (w : World) (i : Int) (t : Tok) : (mixKind prog w).is (.inl i) (.int i t) = true := keyIs_int i t
theorem mixKind_str (prog : Program) (w : World) (x : Str) (t : Tok) : (mixKind prog w).is (.inr x) (.str x t) = true := keyIs_str x t
end L2
namespace L2
open PySem PySem.Spec PyProof.Rows
inductive V where
  | non | bl (b : Bool) | int (i : Int) | str (x : Str) | byt (b : Array UInt8) | flt (b : UInt64) | ref (a : Addr) | ty (n : String)
  deriving DecidableEq
def RelV : V → Value → Prop
  | .non,u => u = Value.none
  | .bl b,u => u = Value.bool b
  | .int i,u => ∃ t,u = Value.int i t
  | .str x,u => ∃ t,u = Value.str x t
  | .byt b,u => ∃ t,u = Value.bytes b t
  | .flt b,u => ∃ t,u = Value.float b t
  | .ref a,u => u = Value.ref a
  | .ty n,u => u = Value.type n
abbrev Vals : List V → List Value → Prop := Paired RelV
theorem Vals.length {xs : List V} {us : List Value} (r : Vals xs us) : xs.length = us.length := Paired.length r
theorem Vals.get : ∀ {xs : List V} {us : List Value} {i : Nat} {x : V},Vals xs us → xs[i]? = some x → ∃ u,us[i]? = some u ∧ RelV x u
  | _,_,_,_,.nil,e => by simp at e
  | _,_,0,_,.cons r _,e => by simp at e; subst e; exact ⟨_,rfl,r⟩
  | _,_,i + 1,x,.cons _ t,e => by
    obtain ⟨u,h1,h2⟩ := Vals.get (i := i) (x := x) t (by simpa using e)
    exact ⟨u,by simpa using h1,h2⟩
theorem Vals.set {x : V} {u : Value} (r : RelV x u) : ∀ {xs : List V} {us : List Value} (i : Nat),Vals xs us → Vals (xs.set i x) (us.set i u)
  | _,_,_,.nil => .nil
  | _,_,0,.cons _ t => .cons r t
  | _,_,i + 1,.cons q t => .cons q (Vals.set r i t)
theorem Vals.append : ∀ {xs ys : List V} {us ws : List Value},Vals xs us → Vals ys ws → Vals (xs ++ ys) (us ++ ws)
  | _,_,_,_,.nil,s => s
  | _,_,_,_,.cons r t,s => .cons r (Vals.append t s)
theorem Vals.take : ∀ {xs : List V} {us : List Value} (n : Nat),Vals xs us → Vals (xs.take n) (us.take n)
  | _,_,0,_ => .nil
  | _,_,_ + 1,.nil => .nil
  | _,_,n + 1,.cons r t => .cons r (Vals.take n t)
theorem Vals.drop : ∀ {xs : List V} {us : List Value} (n : Nat),Vals xs us → Vals (xs.drop n) (us.drop n)
  | _,_,0,r => r
  | _,_,_ + 1,.nil => .nil
  | _,_,n + 1,.cons _ t => Vals.drop n t
def RelO : Option V → Option Value → Prop
  | some v,some u => RelV v u
  | none,none => True
  | _,_ => False
def KV {κ : Type} : List (κ × V) → List (κ × Value) → Prop := Paired fun (p : κ × V) (q : κ × Value) => p.1 = q.1 ∧ RelV p.2 q.2
def kV : Key → V
  | .inl i => .int i
  | .inr x => .str x
inductive HO where
  /-- a list -/
  | lst (xs : List V)
  /-- a tuple (never changes) -/
  | tup (xs : List V)
  /-- a dict whose keys are ints and texts; one whose keys are tuples of ints and texts (the empty one is both) -/
  | dK (kvs : List (Key × V)) | dT (kvs : List (List Key × V))
  /-- a set of ints: its members,its size -/
  | set (S : Int → Bool) (n : Nat)
  /-- an instance of the class at C,its dict at dx,its attributes -/
  | ins (C dx : Addr) (fs : List (Str × V))
  /-- the dict of the instance at x -/
  | own (x : Addr)
  /-- the dict of an exception -/
  | xd (fs : List (Str × V))
  /-- a bound method,f of x -/
  | met (f x : Addr)
  /-- a range object lo,lo + 1,.. below hi -/
  | rng (lo hi : Int)
  /-- a thing that is known to the object (the script; a dict while a loop walks it): read,never written while it is so -/
  | frz (o : Obj) (u : HO)
  /-- a code object's table -/
  | tbl (ps : Array Value)
  /-- any other thing,by what is true of its one object (a def of one's own: SetO a S n := HO.ext fun h => ..) -/
  | ext (φ : Heap → Prop)
abbrev Hp := Addr → Option HO
def upd (H : Hp) (a : Addr) (o : HO) : Hp := fun b => if b = a then some o else H b
theorem upd_same {H : Hp} {a : Addr} {o : HO} : upd H a o a = some o := by unfold upd; rw [if_pos rfl]
theorem upd_ne {H : Hp} {a b : Addr} {o : HO} (h : b ≠ a) : upd H a o b = H b := by unfold upd; rw [if_neg h]
theorem ne_of {H : Hp} {a b : Addr} {o u : HO} (h : H a = some o) (h' : H b = some u) (d : o ≠ u) : a ≠ b := by
  intro e; subst e; rw [h] at h'; exact d (Option.some.inj h')
theorem ne_of_none {H : Hp} {a b : Addr} {o : HO} (h : H a = some o) (h' : H b = none) : a ≠ b := by
  intro e; subst e; rw [h] at h'; cases h'
section
variable (P : Program) (w : World)
def ObjOk (H : Hp) (h : Heap) (a : Addr) : HO → Prop
  | .lst xs => xs.length ≤ sizeLine ∧ ∃ (its : List Value) (n : Nat),Vals xs its ∧ h.get? a = some { cls := .type "list",data := .seq its.toArray n }
  | .tup xs => xs.length ≤ sizeLine ∧ ∃ its : List Value,Vals xs its ∧ IsTup h a its.toArray
  | .dK kvs => kvs.length ≤ sizeLine ∧ (a == sysModules) = false ∧ ∃ vs,KV kvs vs ∧ h.DictOf (mixKind P w) a vs
  | .dT kvs => kvs.length ≤ sizeLine ∧ (a == sysModules) = false ∧ ∃ xs : List (List Key × Addr × Value),
      Paired (fun (p : List Key × V) (q : List Key × Addr × Value) => p.1 = q.1 ∧ H q.2.1 = some (.tup (p.1.map kV)) ∧ RelV p.2 q.2.2) kvs xs ∧
      ∃ o es ep,h.get? a = some o ∧ o.ExactDict ∧ o.data = .dict es ep ∧ es.toList = xs.map (entryOfKey (tupleKind (mixKind P w))) ∧ (xs.map (·.1)).Nodup
  | .set S n => h.SetOf (intKind P w) a S n
  | .ins C dx fs => H dx = some (.own a) ∧ fs.length ≤ 1000 ∧ dx ≠ a ∧ h.get? a = some (PySem.W.instObj C dx) ∧
      ∃ mA,h.Ns1 dx mA ∧ (∀ f,RelO (fs.lookup f) (mA f)) ∧ PySem.Within mA (fs.map (·.1))
  | .own _ => ∃ o,h.get? a = some o
  | .xd fs => ∃ mA,h.Ns1 a mA ∧ ∀ f,RelO (fs.lookup f) (mA f)
  | .rng lo hi => ∃ t u v,h.get? a = some { cls := .type "range",data := .fields #[.int lo t,.int hi u,.int 1 v] }
  | .frz o u => h.get? a = some o ∧ ObjOk H h a u
  | .tbl ps => h.get? a = some { cls := .none,data := .fields ps }
  | .met f x => h.get? a = some (PySem.W.methodObj (.ref f) (.ref x))
  | .ext φ => φ h ∧ (∃ o,h.get? a = some o) ∧ ∀ h1 h2 : Heap,φ h1 → (∀ o,h1.get? a = some o → h2.get? a = some o) → φ h2
def HOk (H : Hp) (h : Heap) : Prop := ∀ a o,H a = some o → ObjOk P w H h a o
end
section
variable {P : Program} {w : World} {H H' : Hp} {h h' : Heap} {a : Addr} {o : HO}
theorem ObjOk.lt (x : ObjOk P w H h a o) : a < h.objs.size := by
  cases o with
  | lst xs => obtain ⟨_,_,_,_,e⟩ := x; exact Heap.lt_size e
  | tup xs => obtain ⟨_,_,_,p⟩ := x; exact p.lt
  | dK kvs => obtain ⟨_,_,_,_,o,_,_,e,_⟩ := x; exact Heap.lt_size e
  | dT kvs => obtain ⟨_,_,_,_,o,_,_,e,_⟩ := x; exact Heap.lt_size e
  | set S n => obtain ⟨o,_,_,_,e,_⟩ := x; exact Heap.lt_size e
  | ins C dx fs => obtain ⟨_,_,_,e,_⟩ := x; exact Heap.lt_size e
  | own y => obtain ⟨_,e⟩ := x; exact Heap.lt_size e
  | xd fs => obtain ⟨_,⟨_,_,_,e,_⟩,_⟩ := x; exact Heap.lt_size e
  | rng lo hi => obtain ⟨_,_,_,e⟩ := x; exact Heap.lt_size e
  | frz ob u => obtain ⟨e,_⟩ := x; exact Heap.lt_size e
  | tbl ps => exact Heap.lt_size (show h.get? a = some _ from x)
  | met f y => exact Heap.lt_size (show h.get? a = some _ from x)
  | ext φ => obtain ⟨_,⟨_,e⟩,_⟩ := x; exact Heap.lt_size e
theorem Paired.mapP {α β : Type} {F G : α → β → Prop} : ∀ {l₁ : List α} {l₂ : List β},Paired F l₁ l₂ → (∀ a b,F a b → G a b) → Paired G l₁ l₂
  | _,_,.nil,_ => .nil
  | _,_,.cons r t,f => .cons (f _ _ r) (Paired.mapP t f)
theorem ObjOk.stay (x : ObjOk P w H h a o) (k : ∀ b u,(b = a ∨ H b = some (.own a)) → h.get? b = some u → h'.get? b = some u)
    (ho : ∀ b,H b = some (.own a) → H' b = some (.own a)) (ht : ∀ b xs,H b = some (.tup xs) → H' b = some (.tup xs)) : ObjOk P w H' h' a o := by
  induction o with
  | lst xs => obtain ⟨z,its,n,r,e⟩ := x; exact ⟨z,its,n,r,k _ _ (.inl rfl) e⟩
  | tup xs => obtain ⟨z,its,r,ob,e,c⟩ := x; exact ⟨z,its,r,ob,k _ _ (.inl rfl) e,c⟩
  | dK kvs => obtain ⟨z,y,vs,r,ob,es,ep,e,c⟩ := x; exact ⟨z,y,vs,r,ob,es,ep,k _ _ (.inl rfl) e,c⟩
  | dT kvs =>
    obtain ⟨z,y,xs,r,ob,es,ep,e,c⟩ := x
    exact ⟨z,y,xs,Paired.mapP r fun p q z => ⟨z.1,ht _ _ z.2.1,z.2.2⟩,ob,es,ep,k _ _ (.inl rfl) e,c⟩
  | set S n => obtain ⟨ob,es,ep,t,e,c⟩ := x; exact ⟨ob,es,ep,t,k _ _ (.inl rfl) e,c⟩
  | ins C dx fs =>
    obtain ⟨d,z,ne,e,mA,⟨od,es,ep,e2,c⟩,r⟩ := x
    exact ⟨ho _ d,z,ne,k _ _ (.inl rfl) e,mA,⟨od,es,ep,k _ _ (.inr d) e2,c⟩,r⟩
  | own y => obtain ⟨ob,e⟩ := x; exact ⟨ob,k _ _ (.inl rfl) e⟩
  | xd fs => obtain ⟨mA,⟨od,es,ep,e,c⟩,r⟩ := x; exact ⟨mA,⟨od,es,ep,k _ _ (.inl rfl) e,c⟩,r⟩
  | rng lo hi => obtain ⟨t,u,v,e⟩ := x; exact ⟨t,u,v,k _ _ (.inl rfl) e⟩
  | frz ob u ih => obtain ⟨e,q⟩ := x; exact ⟨k _ _ (.inl rfl) e,ih q⟩
  | tbl ps =>
    have e : h.get? a = some { cls := .none,data := .fields ps } := x
    show h'.get? a = some { cls := .none,data := .fields ps }
    exact k a _ (.inl rfl) e
  | met f y =>
    have e : h.get? a = some (PySem.W.methodObj (.ref f) (.ref y)) := x
    show h'.get? a = some (PySem.W.methodObj (.ref f) (.ref y))
    exact k a _ (.inl rfl) e
  | ext φ => obtain ⟨p,⟨o,e⟩,st⟩ := x; exact ⟨st _ _ p fun o q => k _ _ (.inl rfl) q,⟨o,k _ _ (.inl rfl) e⟩,st⟩
theorem HOk.lt (x : HOk P w H h) (e : H a = some o) : a < h.objs.size := (x a o e).lt
theorem HOk.fresh (x : HOk P w H h) (e : h.objs.size ≤ a) : H a = none := by
  cases q : H a with
  | none => rfl
  | some u => exact absurd (Nat.lt_of_lt_of_le (x.lt q) e) (Nat.lt_irrefl _)
theorem HOk.kept (x : HOk P w H h) (k : ∀ b u,h.get? b = some u → h'.get? b = some u) : HOk P w H h' := fun a o e =>
  (x a o e).stay (fun b u _ q => k b u q) (fun _ q => q) fun _ _ q => q
theorem HOk.laid (x : HOk P w H h) (k : ∀ b u,h.get? b = some u → h'.get? b = some u) (hp : h.objs.size ≤ a) (new : ObjOk P w (upd H a o) h' a o) : HOk P w (upd H a o) h' := fun b u e => by
  have hn := x.fresh hp
  by_cases hb : b = a
  · subst hb; rw [upd_same] at e; cases e; exact new
  · rw [upd_ne hb] at e
    exact (x b u e).stay (fun c v _ q => k c v q) (fun c q => by rw [upd_ne (ne_of_none q hn)]; exact q) fun c xs q => by rw [upd_ne (ne_of_none q hn)]; exact q
end
def Rd (H : Hp) (a : Addr) (u : HO) : Prop := H a = some u ∨ ∃ o,H a = some (.frz o u)
theorem Rd.ok {P : Program} {w : World} {H : Hp} {h : Heap} {a : Addr} {u : HO} (r : Rd H a u) (x : HOk P w H h) : ObjOk P w H h a u := by
  rcases r with r | ⟨o,r⟩
  · exact x a u r
  · obtain ⟨_,q⟩ := x a _ r
    exact q
def Mut : Option HO → Prop
  | some (.lst _) => True
  | some (.dK _) => True
  | some (.dT _) => True
  | some (.set _ _) => True
  | some (.ins _ _ _) => True
  | some (.ext _) => True
  | _ => False
section
variable {P : Program} {w : World} {H : Hp} {h h' : Heap} {x e : Addr} {o' : HO}
theorem HOk.write (ok : HOk P w H h) (mu : Mut (H x)) (he : e = x ∨ H e = some (.own x)) (k : ∀ b u,b ≠ e → h.get? b = some u → h'.get? b = some u) (heo : ∃ u,h'.get? e = some u)
    (new : ObjOk P w (upd H x o') h' x o') : HOk P w (upd H x o') h' := fun b u q => by
  have nown : ∀ c y,H c = some (.own y) → c ≠ x := fun c y r z => by subst z; rw [r] at mu; exact mu
  have ntup : ∀ c xs,H c = some (.tup xs) → c ≠ x := fun c xs r z => by subst z; rw [r] at mu; exact mu
  by_cases hb : b = x
  · subst hb; rw [upd_same] at q; cases q; exact new
  · rw [upd_ne hb] at q
    by_cases hbe : b = e
    · have q' : H b = some (.own x) := by
        rcases he with z | z
        · exact absurd (hbe.trans z) hb
        · rw [hbe]; exact z
      rw [q] at q'; cases q'
      obtain ⟨v,hv⟩ := heo
      exact ⟨v,by rw [hbe]; exact hv⟩
    · refine (ok b u q).stay (fun c v hc r => k c v ?_ r) (fun c r => by rw [upd_ne (nown c b r)]; exact r) fun c xs r => by rw [upd_ne (ntup c xs r)]; exact r
      rcases hc with rfl | hc
      · exact hbe
      · rintro rfl
        rcases he with z | z
        · exact nown c b hc z
        · rw [hc] at z; cases z; exact hb rfl
end
structure Un (fs ex : List Addr) (H H' : Hp) (h h' : Heap) : Prop where
  keep : ∀ b o,h.get? b = some o → H b = none → b ∉ fs → b ∉ ex → h'.get? b = some o
  slot : ∀ b o,h.get? b = some o → H b = none → b ∈ fs → b ∉ ex → ∃ sl,h'.get? b = some { o with slots := sl }
  free : ∀ b o,h.get? b = some o → H b = none → b ∉ ex → H' b = none
  there : ∀ b o,h.get? b = some o → b ∉ ex → ∃ o',h'.get? b = some o'
  tups : ∀ b xs,H b = some (.tup xs) → H' b = some (.tup xs)
  frzs : ∀ b o u,H b = some (.frz o u) → H' b = some (.frz o u)
  tbls : ∀ b ps,H b = some (.tbl ps) → ∃ more,H' b = some (.tbl (ps ++ more))
section
variable {fs fs' ex ex' : List Addr} {H H1 H2 : Hp} {h h1 h2 h' : Heap} {a x e : Addr} {o : HO}
theorem Un.any (u : Un fs ex H H1 h h1) {b : Addr} {ob : Obj} (q : h.get? b = some ob) (n : H b = none) (hx : b ∉ ex) : ∃ sl,h1.get? b = some { ob with slots := sl } := by
  by_cases hb : b ∈ fs
  · exact u.slot b ob q n hb hx
  · exact ⟨ob.slots,u.keep b ob q n hb hx⟩
theorem Un.kept (k : ∀ b u,h.get? b = some u → h'.get? b = some u) : Un fs ex H H h h' :=
  ⟨fun b ob q _ _ _ => k b ob q,fun b ob q _ _ _ => ⟨ob.slots,k b ob q⟩,fun _ _ _ n _ => n,fun b ob q _ => ⟨ob,k b ob q⟩,fun _ _ q => q,fun _ _ _ q => q,fun _ ps q => ⟨#[],by rw [q]; simp⟩⟩
theorem Un.refl : Un fs ex H H h h := Un.kept fun _ _ q => q
theorem Un.laid (k : ∀ b u,h.get? b = some u → h'.get? b = some u) (hp : h.objs.size ≤ a) (hn : H a = none) : Un fs ex H (upd H a o) h h' where
  keep := fun b u q _ _ _ => k b u q
  slot := fun b u q _ _ _ => ⟨u.slots,k b u q⟩
  free := fun b u q n _ => by rw [upd_ne (Nat.ne_of_lt (Nat.lt_of_lt_of_le (Heap.lt_size q) hp))]; exact n
  there := fun b u q _ => ⟨u,k b u q⟩
  tups := fun b xs q => by rw [upd_ne (ne_of_none q hn)]; exact q
  frzs := fun b u xs q => by rw [upd_ne (ne_of_none q hn)]; exact q
  tbls := fun b ps q => ⟨#[],by rw [upd_ne (ne_of_none q hn),q]; simp⟩
theorem Un.write (mu : Mut (H x)) (he : e = x ∨ H e = some (.own x)) (k : ∀ b u,b ≠ e → h.get? b = some u → h'.get? b = some u) (heo : ∃ u,h'.get? e = some u) : Un fs ex H (upd H x o) h h' := by
  have hx : ∀ b,H b = none → b ≠ x := fun b n z => by subst z; rw [n] at mu; exact mu
  have hb : ∀ b,H b = none → b ≠ e := fun b n z => by
    subst z
    rcases he with r | r
    · exact hx b n r
    · rw [n] at r; cases r
  have hm : ∀ b u,H b = some u → ¬ Mut (some u) → b ≠ x := fun b u q nm z => by subst z; rw [q] at mu; exact nm mu
  refine ⟨fun b u q n _ _ => k b u (hb b n) q,fun b u q n _ _ => ⟨u.slots,k b u (hb b n) q⟩,fun b u q n _ => by rw [upd_ne (hx b n)]; exact n,fun b u q _ => ?_,
    fun b xs q => by rw [upd_ne (hm b _ q fun z => z)]; exact q,fun b u xs q => by rw [upd_ne (hm b _ q fun z => z)]; exact q,fun b ps q => ⟨#[],by rw [upd_ne (hm b _ q fun z => z),q]; simp⟩⟩
  by_cases hbe : b = e
  · subst hbe; exact heo
  · exact ⟨u,k b u hbe q⟩
end
def trk (h : Heap) (H : Hp) : List Addr := (List.range h.objs.size).filter fun a => (H a).isSome
def hidT (h : Heap) (H : Hp) : Heap := PySem.W.hideAll h (trk h H)
theorem hidT_size (h : Heap) (H : Hp) : (hidT h H).objs.size = h.objs.size := PySem.W.hideAll_size _ _
theorem hidT_get {h : Heap} {H : Hp} {b : Addr} {o : Obj} (e : h.get? b = some o) (n : H b = none) : (hidT h H).get? b = some o :=
  PySem.W.hideAll_get _ e fun hm => by
    have q : (H b).isSome = true := (List.mem_filter.mp hm).2
    rw [n] at q; simp at q
theorem of_hidT {h : Heap} {H : Hp} {b : Addr} {o : Obj} (e : (hidT h H).get? b = some o) : h.get? b = some o ∧ H b = none := by
  have e' : h.get? b = some o := PySem.W.of_hideAll (trk h H) e
  refine ⟨e',?_⟩
  cases q : H b with
  | none => rfl
  | some x =>
    have hm : b ∈ trk h H := List.mem_filter.mpr ⟨List.mem_range.mpr (Heap.lt_size e'),by simp [q]⟩
    have z : (hidT h H).get? b = none := PySem.W.hideAll_none (trk h H) hm
    rw [z] at e; cases e
end L2
namespace L2
open PySem PySem.Spec PyProof.Rows
structure Mod (K : PySem.W.Frag) (mg : Str → Option Value) (base : Heap) : Prop where
  kin : K.In base
  glob : base.Ns mainGlobals mg
  blt : ∃ mb,base.Ns builtinsNs mb ∧ ∀ x : Str,x ≠ "__name__" → mb x = bootBuiltins x
  nolimit : base.NoLimit
structure Cx where
  prog : Program
  w : World
  K : PySem.W.Frag
  mg : Str → Option Value
  base : Heap
  A : Around
  N : List Str
  s₀ : Shared
  H₀ : Hp
  env : Env
  outer : List Env
  stack : List Env
  ex : List Addr
  fn : Str → Bool
  calm : Bool
  pn : List (Addr × Obj)
  xe : Value → Shared → Prop
def frs (l : List Env) : List Addr := l.filterMap (·.frame)
abbrev Cx.fs (X : Cx) : List Addr := frs X.outer
def Vis (sc : Scope) (x : Str) : Prop := sc.names.lookup x = some .local ∨ sc.names.lookup x = some .cell ∨ sc.names.lookup x = some .free
def Loc (sc : Scope) (x : Str) : Prop := sc.names.lookup x = some .local ∨ sc.names.lookup x = some .cell
def Look (env : Env) (h : Heap) (m : Str → Option Value) (x : Str) (u : Value) : Prop :=
  (env.kindOf x = some .local ∧ m x = some u) ∨ ((env.kindOf x = some .cell ∨ env.kindOf x = some .free) ∧ ∃ c,env.cells.lookup x = some c ∧ h.IsCell c (some u))
structure Cx.Ok (X : Cx) : Prop where
  mod : Mod X.K X.mg X.base
  kind : X.env.scope.kind = .function
  glob : X.env.globals = mainGlobals
  blt : X.env.builtins = builtinsNs
  above : X.s₀.heap.objs.size ≤ X.env.locals
  inj : ∀ x y c,X.env.cells.lookup x = some c → X.env.cells.lookup y = some c → x = y
  has : ∀ x,(X.env.kindOf x = some .cell ∨ X.env.kindOf x = some .free) → ∃ c,X.env.cells.lookup x = some c
  cab : ∀ x c,X.fn x = true → X.env.cells.lookup x = some c → X.s₀.heap.objs.size ≤ c
  hd : X.calm = true → X.A.handled = none
  frames : X.A.frames = some X.stack
  stk : X.stack = X.outer ∨ (X.stack = X.env :: X.outer ∧ X.env.frame = some X.env.locals)
  exf : ∀ b ∈ X.ex,b ≠ X.env.locals ∧ ∀ x c,X.env.cells.lookup x = some c → c ≠ b
  bs : ∀ b o,X.base.get? b = some o → X.s₀.heap.get? b = some o ∧ X.H₀ b = none
  bsz : X.base.objs.size ≤ X.s₀.heap.objs.size
  noex : ∀ b o,X.base.get? b = some o → b ∉ X.ex
  exfs : ∀ b ∈ X.ex,b ∉ X.fs
  funs : X.s₀.heap.FunFrames X.base X.outer
  frf : ∀ b ∈ X.fs,X.H₀ b = none
structure Inv (X : Cx) (pins : List (Addr × Obj)) (σ : List (Option V)) (H : Hp) (s : Shared) : Prop where
  ok : X.Ok
  os : s.os = X.s₀.os
  bare : AllBare s.gens
  base : Un X.fs X.ex X.H₀ H X.s₀.heap s.heap
  loc : ∃ m,s.heap.Ns X.env.locals m ∧ ∀ (i : Nat) (x : Str) (v : V),X.N[i]? = some x → σ[i]? = some (some v) → Vis X.env.scope x → ∃ u,RelV v u ∧ Look X.env s.heap m x u
  cell : ∀ x c,X.env.cells.lookup x = some c → ∃ v,s.heap.IsCell c v
  free : H X.env.locals = none
  freeC : ∀ x c,X.env.cells.lookup x = some c → H c = none
  pin : ∀ p ∈ X.pn ++ pins,s.heap.get? p.1 = some p.2 ∧ H p.1 = none ∧ p.1 ≠ X.env.locals ∧ p.1 ∉ X.fs ∧ ∀ v,p.2.data ≠ .cell v
  hok : HOk X.prog X.w H s.heap
  len : σ.length = X.N.length
section
variable {X : Cx} {pins : List (Addr × Obj)} {σ : List (Option V)} {H H' : Hp} {s : Shared} {h' : Heap}
theorem Cx.Ok.nofr (ok : X.Ok) {b : Addr} {o : Obj} (e : X.base.get? b = some o) : b ∉ X.fs := fun hb => by
  have := (ok.funs.mem hb).1
  rw [e] at this; cases this
theorem Inv.bs (I : Inv X pins σ H s) : ∀ b o,X.base.get? b = some o → s.heap.get? b = some o ∧ H b = none := fun b o e =>
  ⟨I.base.keep b o (I.ok.bs b o e).1 (I.ok.bs b o e).2 (I.ok.nofr e) (I.ok.noex b o e),I.base.free b o (I.ok.bs b o e).1 (I.ok.bs b o e).2 (I.ok.noex b o e)⟩
theorem Inv.bk (I : Inv X pins σ H s) : ∀ b o,X.base.get? b = some o → s.heap.get? b = some o := fun b o e => (I.bs b o e).1
theorem Inv.mod (I : Inv X pins σ H s) : Mod X.K X.mg X.base := I.ok.mod
theorem Inv.kIn (I : Inv X pins σ H s) : X.K.In s.heap := I.ok.mod.kin.keeps I.bk
theorem Inv.lt (I : Inv X pins σ H s) : X.env.locals < s.heap.objs.size := let ⟨_,hn,_⟩ := I.loc; hn.lt
theorem Inv.sz (I : Inv X pins σ H s) : X.s₀.heap.objs.size ≤ s.heap.objs.size := Nat.le_trans I.ok.above (Nat.le_of_lt I.lt)
theorem Inv.nofs (I : Inv X pins σ H s) {a : Addr} (h : s.heap.objs.size ≤ a) : a ∉ X.fs := fun hb => by
  obtain ⟨_,o,ho,_⟩ := I.ok.funs.mem hb
  exact absurd (Nat.lt_of_lt_of_le (Heap.lt_size ho) (Nat.le_trans I.sz h)) (Nat.lt_irrefl _)
theorem Inv.cne (I : Inv X pins σ H s) : ∀ x c,X.env.cells.lookup x = some c → c ≠ X.env.locals := fun x c e z => by
  obtain ⟨v,o,ho,hd⟩ := I.cell x c e
  obtain ⟨m,⟨o',es,ep,ho',hd',_⟩,_⟩ := I.loc
  rw [z,ho'] at ho; cases ho; rw [hd'] at hd; cases hd
theorem Inv.funs (I : Inv X pins σ H s) : s.heap.FunFrames X.base X.outer := by
  have all : ∀ (l : List Env),(∀ b ∈ frs l,b ∈ X.fs) → X.s₀.heap.FunFrames X.base l → s.heap.FunFrames X.base l := by
    intro l
    induction l with
    | nil => intro _ _; trivial
    | cons env r ih =>
      intro hs hl
      obtain ⟨hk,⟨L,o,hf,hn,ho,hd⟩,hr⟩ := hl
      have hL : L ∈ X.fs := hs L (by unfold frs; rw [List.filterMap_cons,hf]; exact List.mem_cons_self)
      obtain ⟨sl,e⟩ := I.base.slot L o ho (I.ok.frf L hL) hL fun z => I.ok.exfs L z hL
      exact ⟨hk,⟨L,_,hf,hn,e,hd⟩,ih (fun b hb => hs b (by unfold frs; rw [List.filterMap_cons,hf]; exact List.mem_cons_of_mem _ hb)) hr⟩
  exact all X.outer (fun _ hb => hb) I.ok.funs
theorem Inv.stack (I : Inv X pins σ H s) : s.heap.FunFrames X.base X.stack := by
  rcases I.ok.stk with e | ⟨e,hf⟩
  · rw [e]; exact I.funs
  · rw [e]
    obtain ⟨m,hn,_⟩ := I.loc
    refine .cons (by rw [I.ok.kind]; decide) hf hn ?_ I.funs
    exact Heap.get?_none_of_le (Nat.le_trans I.ok.bsz I.ok.above)
theorem Inv.stkSub (I : Inv X pins σ H s) : ∀ b ∈ frs X.stack,b ∈ X.env.locals :: X.fs := fun b hb => by
  rcases I.ok.stk with e | ⟨e,hf⟩
  · rw [e] at hb; exact List.mem_cons_of_mem _ hb
  · rw [e] at hb
    unfold frs at hb
    rw [List.filterMap_cons,hf] at hb
    exact hb
theorem Inv.stkFree (I : Inv X pins σ H s) : ∀ b ∈ frs X.stack,H b = none := fun b hb => by
  rcases List.mem_cons.mp (I.stkSub b hb) with e | hb
  · rw [e]; exact I.free
  · obtain ⟨_,o,ho,_⟩ := I.ok.funs.mem hb
    exact I.base.free b o ho (I.ok.frf b hb) fun z => I.ok.exfs b z hb
theorem Inv.step {g' : Array GenState} {t' : Nat} {d' : Drawn} {ch : List Addr} (I : Inv X pins σ H s)
    (hch : ∀ b ∈ ch,(b ∈ X.ex ∨ X.s₀.heap.objs.size ≤ b) ∧ b ≠ X.env.locals ∧ (∀ x c,X.env.cells.lookup x = some c → c ≠ b) ∧ ∀ p ∈ X.pn ++ pins,p.1 ≠ b)
    (keep : ∀ b o,b ≠ X.env.locals → b ∉ X.fs → b ∉ ch → s.heap.get? b = some o → H b = none → h'.get? b = some o)
    (slot : ∀ b o,b ≠ X.env.locals → b ∈ X.fs → b ∉ ch → s.heap.get? b = some o → H b = none → ∃ sl,h'.get? b = some { o with slots := sl }) (free : ∀ b o,b ∉ ch → s.heap.get? b = some o → H b = none → H' b = none)
    (there : ∀ b o,b ∉ ch → s.heap.get? b = some o → ∃ o',h'.get? b = some o')
    (tups : ∀ b xs,H b = some (.tup xs) → H' b = some (.tup xs)) (frzs : ∀ b o u,H b = some (.frz o u) → H' b = some (.frz o u)) (tbls : ∀ b ps,H b = some (.tbl ps) → ∃ more,H' b = some (.tbl (ps ++ more)))
    (ns : ∀ m,s.heap.Ns X.env.locals m → h'.Ns X.env.locals m) (hok : HOk X.prog X.w H' h') (hg : AllBare g') :
    Inv X pins σ H' { s with heap := h',gens := g',drawn := d',toks := t' } := by
  have neL : ∀ b o,X.s₀.heap.get? b = some o → b ≠ X.env.locals := fun b o e => Nat.ne_of_lt (Nat.lt_of_lt_of_le (Heap.lt_size e) I.ok.above)
  have neC : ∀ b o,X.s₀.heap.get? b = some o → b ∉ X.ex → b ∉ ch := fun b o e hx hb => by
    rcases (hch b hb).1 with z | z
    · exact hx z
    · exact absurd (Nat.lt_of_lt_of_le (Heap.lt_size e) z) (Nat.lt_irrefl _)
  have cellK : ∀ x c,X.env.cells.lookup x = some c → ∀ v,s.heap.IsCell c v → h'.IsCell c v := fun x c e v ⟨o,ho,hd⟩ => by
    have nch : c ∉ ch := fun z => (hch c z).2.2.1 x c e rfl
    by_cases hc : c ∈ X.fs
    · obtain ⟨sl,q⟩ := slot c o (I.cne x c e) hc nch ho (I.freeC x c e)
      exact ⟨_,q,hd⟩
    · exact ⟨o,keep c o (I.cne x c e) hc nch ho (I.freeC x c e),hd⟩
  refine ⟨I.ok,I.os,hg,⟨fun b o e n hb hx => ?_,fun b o e n hb hx => ?_,fun b o e n hx => ?_,fun b o e hx => ?_,fun b xs e => tups b xs (I.base.tups b xs e),fun b o xs e => frzs b o xs (I.base.frzs b o xs e),fun b ps e => ?_⟩,?_,fun x c e => ?_,?_,fun x c e => ?_,fun p hp => ?_,hok,I.len⟩
  · exact keep b o (neL b o e) hb (neC b o e hx) (I.base.keep b o e n hb hx) (I.base.free b o e n hx)
  · obtain ⟨sl,e1⟩ := I.base.slot b o e n hb hx
    obtain ⟨sl',e2⟩ := slot b _ (neL b o e) hb (neC b o e hx) e1 (I.base.free b o e n hx)
    exact ⟨sl',e2⟩
  · obtain ⟨o',e1⟩ := I.base.there b o e hx
    exact free b o' (neC b o e hx) e1 (I.base.free b o e n hx)
  · obtain ⟨o',e1⟩ := I.base.there b o e hx
    exact there b o' (neC b o e hx) e1
  · obtain ⟨m1,e1⟩ := I.base.tbls b ps e
    obtain ⟨m2,e2⟩ := tbls b _ e1
    exact ⟨m1 ++ m2,by rw [e2,Array.append_assoc]⟩
  · obtain ⟨m,hn,hl⟩ := I.loc
    refine ⟨m,ns m hn,fun i x v e1 e2 e3 => ?_⟩
    obtain ⟨u,r,l⟩ := hl i x v e1 e2 e3
    refine ⟨u,r,?_⟩
    rcases l with l | ⟨k,c,e,z⟩
    · exact .inl l
    · exact .inr ⟨k,c,e,cellK x c e _ z⟩
  · obtain ⟨v,z⟩ := I.cell x c e
    exact ⟨v,cellK x c e v z⟩
  · obtain ⟨m,⟨o,_,_,ho,_⟩,_⟩ := I.loc
    exact free _ o (fun z => (hch _ z).2.1 rfl) ho I.free
  · obtain ⟨v,o,ho,hd⟩ := I.cell x c e
    exact free c o (fun z => (hch c z).2.2.1 x c e rfl) ho (I.freeC x c e)
  · obtain ⟨e,n,ne,nf,d⟩ := I.pin p hp
    have nch : p.1 ∉ ch := fun z => (hch p.1 z).2.2.2 p hp rfl
    exact ⟨keep p.1 p.2 ne nf nch e n,free p.1 p.2 nch e n,ne,nf,d⟩
theorem Inv.un {t' : Nat} (I : Inv X pins σ H s) (u : Un X.fs [] H H' s.heap h') (hok : HOk X.prog X.w H' h') : Inv X pins σ H' { s with heap := h',toks := t' } := by
  obtain ⟨m,⟨o,es,ep,ho,r⟩,_⟩ := id I.loc
  obtain ⟨sl,hL⟩ := u.any ho I.free (by simp)
  exact I.step (g' := s.gens) (d' := s.drawn) (ch := []) (fun _ z => nomatch z) (fun b o _ hb _ e n => u.keep b o e n hb (by simp)) (fun b o _ hb _ e n => u.slot b o e n hb (by simp)) (fun b o _ e n => u.free b o e n (by simp)) (fun b o _ e => u.there b o e (by simp)) u.tups u.frzs u.tbls (fun m' hm => by
    obtain ⟨o',es',ep',ho',r'⟩ := hm
    rw [ho] at ho'; cases ho'
    exact ⟨_,es',ep',hL,r'⟩) hok I.bare
theorem Inv.call {g' : Array GenState} {t' : Nat} {d' : Drawn} {ch : List Addr} (I : Inv X pins σ H s) (u : Un (frs X.stack) ch H H' s.heap h') (hok : HOk X.prog X.w H' h') (hg : AllBare g')
    (hch : ∀ b ∈ ch,(b ∈ X.ex ∨ X.s₀.heap.objs.size ≤ b) ∧ b ≠ X.env.locals ∧ (∀ x c,X.env.cells.lookup x = some c → c ≠ b) ∧ ∀ p ∈ X.pn ++ pins,p.1 ≠ b) :
    Inv X pins σ H' { s with heap := h',gens := g',drawn := d',toks := t' } := by
  obtain ⟨m,⟨o,es,ep,ho,r⟩,_⟩ := id I.loc
  obtain ⟨sl,hL⟩ := u.any ho I.free fun z => (hch _ z).2.1 rfl
  exact I.step (ch := ch) hch (fun b o hL hb hc e n => u.keep b o e n (fun z => (List.mem_cons.mp (I.stkSub b z)).elim hL hb) hc) (fun b o _ _ hc e n => u.any e n hc) (fun b o hc e n => u.free b o e n hc) (fun b o hc e => u.there b o e hc) u.tups u.frzs u.tbls (fun m' hm => by
    obtain ⟨o',es',ep',ho',r'⟩ := hm
    rw [ho] at ho'; cases ho'
    exact ⟨_,es',ep',hL,r'⟩) hok hg
theorem Inv.turned {t' : Nat} {it : Addr} (I : Inv X pins σ H s) (k : ∀ b o,b ≠ it → s.heap.get? b = some o → h'.get? b = some o) (hn : H it = none) (hL : it ≠ X.env.locals)
    (h1 : it ∈ X.ex ∨ X.s₀.heap.objs.size ≤ it) (h2 : ∀ x c,X.env.cells.lookup x = some c → c ≠ it) (h3 : ∀ p ∈ X.pn ++ pins,p.1 ≠ it) : Inv X pins σ H { s with heap := h',toks := t' } := by
  have nit : ∀ b u,H b = some u → b ≠ it := fun b u e z => by rw [z,hn] at e; cases e
  refine I.step (g' := s.gens) (d' := s.drawn) (ch := [it]) (fun b hb => ?_) (fun b o _ _ hc e _ => k b o (fun z => hc (by simp [z])) e) (fun b o _ _ hc e _ => ⟨o.slots,k b o (fun z => hc (by simp [z])) e⟩) (fun _ _ _ _ n => n)
    (fun b o hc e => ⟨o,k b o (fun z => hc (by simp [z])) e⟩) (fun _ _ e => e) (fun _ _ _ e => e) (fun b ps e => ⟨#[],by rw [e]; simp⟩) (fun m hm => ?_) (fun b u e => ?_) I.bare
  · have e : b = it := by simpa using hb
    subst e
    exact ⟨h1,hL,h2,h3⟩
  · obtain ⟨o,es,ep,ho,r⟩ := hm
    exact ⟨o,es,ep,k _ o (Ne.symm hL) ho,r⟩
  · refine (I.hok b u e).stay (fun c v hc q => k c v ?_ q) (fun _ q => q) fun _ _ q => q
    rcases hc with z | z
    · rw [z]; exact nit b u e
    · exact nit c _ z
theorem Inv.tok (I : Inv X pins σ H s) (t : Nat) : Inv X pins σ H { s with toks := t } := I.un (h' := s.heap) (t' := t) Un.refl I.hok
theorem Inv.kept {t' : Nat} (I : Inv X pins σ H s) (k : ∀ b u,s.heap.get? b = some u → h'.get? b = some u) : Inv X pins σ H { s with heap := h',toks := t' } := I.un (Un.kept k) (I.hok.kept k)
theorem Inv.laid {a : Addr} {o : HO} {t' : Nat} (I : Inv X pins σ H s) (k : ∀ b u,s.heap.get? b = some u → h'.get? b = some u) (hp : s.heap.objs.size ≤ a) (new : ObjOk X.prog X.w (upd H a o) h' a o) :
    Inv X pins σ (upd H a o) { s with heap := h',toks := t' } := I.un (Un.laid k hp (I.hok.fresh hp)) (I.hok.laid k hp new)
theorem Inv.write {x e : Addr} {o : HO} {t' : Nat} (I : Inv X pins σ H s) (mu : Mut (H x)) (he : e = x ∨ H e = some (.own x)) (k : ∀ b u,b ≠ e → s.heap.get? b = some u → h'.get? b = some u) (heo : ∃ u,h'.get? e = some u)
    (new : ObjOk X.prog X.w (upd H x o) h' x o) : Inv X pins σ (upd H x o) { s with heap := h',toks := t' } := I.un (Un.write mu he k heo) (I.hok.write mu he k heo new)
theorem Inv.pins_of {pins' : List (Addr × Obj)} (I : Inv X pins σ H s) (h : ∀ p ∈ pins',s.heap.get? p.1 = some p.2 ∧ H p.1 = none ∧ p.1 ≠ X.env.locals ∧ p.1 ∉ X.fs ∧ ∀ v,p.2.data ≠ .cell v) : Inv X pins' σ H s :=
  ⟨I.ok,I.os,I.bare,I.base,I.loc,I.cell,I.free,I.freeC,fun p hp => (List.mem_append.mp hp).elim (fun z => I.pin p (List.mem_append_left _ z)) (h p),I.hok,I.len⟩
theorem nodup_ix {N : List Str} (hN : N.Nodup) {i j : Nat} {x : Str} (a : N[i]? = some x) (b : N[j]? = some x) : i = j := by
  obtain ⟨h1,e1⟩ := List.getElem?_eq_some_iff.mp a
  obtain ⟨h2,e2⟩ := List.getElem?_eq_some_iff.mp b
  exact (List.getElem_inj hN).mp (e1.trans e2.symm)
theorem store_ok2 {M : Model} {A : Around} {E : Value → Shared → Prop} {i : Nat} {x : Str} {v : V} {u : Value} {Q : Unit → Shared → Prop} (I : Inv X pins σ H s) (hN : X.N.Nodup) (hi : X.N[i]? = some x) (hx : Loc X.env.scope x) (r : RelV v u)
    (h : ∀ s',Inv X pins (σ.set i (some v)) H s' → (∃ a,Heap.SameBut a s.heap s'.heap ∧ (a = X.env.locals ∨ X.env.cells.lookup x = some a)) → Q () s') (hf : X.fn x = true ∨ X.env.scope.names.lookup x = some .local := by first | exact .inl rfl | exact .inr rfl | assumption) : wpAny M A (storeName X.env x u) Q E s := by
  obtain ⟨m,hn,hl⟩ := id I.loc
  have hcls : (X.env.scope.kind == .class || (X.env.scope.kind == .module && X.env.locals != X.env.globals)) = false := by rw [I.ok.kind]; rfl
  have hiσ : i < σ.length := by rw [I.len]; exact (List.getElem?_eq_some_iff.mp hi).1
  have cne := I.cne
  have tracked : ∀ {a : Addr} {h' : Heap},(∃ o,s.heap.get? a = some o ∧ H a = none) → Heap.SameBut a s.heap h' → HOk X.prog X.w H h' := fun {a h'} ha hs b ob e => by
    obtain ⟨_,_,hfree⟩ := ha
    refine (I.hok b ob e).stay (fun c w' hc q => (hs.2 c ?_).trans q) (fun _ q => q) fun _ _ q => q
    rintro rfl
    rcases hc with rfl | hc
    · rw [hfree] at e; cases e
    · rw [hfree] at hc; cases hc
  rcases hx with hk | hk
  · refine wpAny_storeName_local hk hn (fun h' hn' hs => ?_) hcls
    obtain ⟨oL,_,_,hoL,_⟩ := id hn
    refine h _ ⟨I.ok,I.os,I.bare,⟨fun b o e n hb hx => ?_,fun b o e n hb hx => ?_,I.base.free,fun b o e hx => ?_,I.base.tups,I.base.frzs,I.base.tbls⟩,⟨_,hn',fun j y v' e1 e2 e3 => ?_⟩,fun y c e => ?_,I.free,I.freeC,fun p hp => ?_,tracked ⟨oL,hoL,I.free⟩ hs,by simpa using I.len⟩ ⟨_,hs,.inl rfl⟩
    · exact (hs.2 b (Nat.ne_of_lt (Nat.lt_of_lt_of_le (Heap.lt_size e) I.ok.above))).trans (I.base.keep b o e n hb hx)
    · obtain ⟨sl,e1⟩ := I.base.slot b o e n hb hx
      exact ⟨sl,(hs.2 b (Nat.ne_of_lt (Nat.lt_of_lt_of_le (Heap.lt_size e) I.ok.above))).trans e1⟩
    · obtain ⟨o',e1⟩ := I.base.there b o e hx
      exact ⟨o',(hs.2 b (Nat.ne_of_lt (Nat.lt_of_lt_of_le (Heap.lt_size e) I.ok.above))).trans e1⟩
    · by_cases hj : j = i
      · subst hj
        rw [hi] at e1; cases e1
        rw [List.getElem?_set_self hiσ] at e2
        cases e2
        exact ⟨u,r,.inl ⟨hk,by simp⟩⟩
      · rw [List.getElem?_set_ne (Ne.symm hj)] at e2
        obtain ⟨u',r',q⟩ := hl j y v' e1 e2 e3
        refine ⟨u',r',?_⟩
        rcases q with ⟨k,e⟩ | ⟨k,c,e,z⟩
        · refine .inl ⟨k,?_⟩
          have : y ≠ x := fun e => hj (nodup_ix hN e1 (e ▸ hi))
          simp [this,e]
        · exact .inr ⟨k,c,e,z.sameBut hs (cne y c e)⟩
    · obtain ⟨w',z⟩ := I.cell y c e
      exact ⟨w',z.sameBut hs (cne y c e)⟩
    · obtain ⟨e,n,ne,nf,d⟩ := I.pin p hp
      exact ⟨(hs.2 p.1 ne).trans e,n,ne,nf,d⟩
  · have hfn : X.fn x = true := by
      rcases hf with z | z
      · exact z
      · rw [z] at hk; cases hk
    obtain ⟨c,hc⟩ := I.ok.has x (.inl hk)
    obtain ⟨w',z⟩ := I.cell x c hc
    refine wpAny_storeName_cell I.ok.kind hk hc z (fun h' hc' hs => ?_)
    obtain ⟨oc,hoc,hocd⟩ := id z
    refine h { s with heap := h' } ⟨I.ok,I.os,I.bare,⟨fun b o e n hb hx => ?_,fun b o e n hb hx => ?_,I.base.free,fun b o e hx => ?_,I.base.tups,I.base.frzs,I.base.tbls⟩,⟨m,hn.sameBut hs (Ne.symm (cne x c hc)),fun j y v' e1 e2 e3 => ?_⟩,fun y c' e => ?_,I.free,I.freeC,fun p hp => ?_,tracked ⟨oc,hoc,I.freeC x c hc⟩ hs,by simpa using I.len⟩ ⟨c,hs,.inr hc⟩
    · exact (hs.2 b (Nat.ne_of_lt (Nat.lt_of_lt_of_le (Heap.lt_size e) (I.ok.cab x c hfn hc)))).trans (I.base.keep b o e n hb hx)
    · obtain ⟨sl,e1⟩ := I.base.slot b o e n hb hx
      exact ⟨sl,(hs.2 b (Nat.ne_of_lt (Nat.lt_of_lt_of_le (Heap.lt_size e) (I.ok.cab x c hfn hc)))).trans e1⟩
    · obtain ⟨o',e1⟩ := I.base.there b o e hx
      exact ⟨o',(hs.2 b (Nat.ne_of_lt (Nat.lt_of_lt_of_le (Heap.lt_size e) (I.ok.cab x c hfn hc)))).trans e1⟩
    · by_cases hj : j = i
      · subst hj
        rw [hi] at e1; cases e1
        rw [List.getElem?_set_self hiσ] at e2
        cases e2
        exact ⟨u,r,.inr ⟨.inl hk,c,hc,hc'⟩⟩
      · rw [List.getElem?_set_ne (Ne.symm hj)] at e2
        obtain ⟨u',r',q⟩ := hl j y v' e1 e2 e3
        refine ⟨u',r',?_⟩
        rcases q with q | ⟨k,c',e,z'⟩
        · exact .inl q
        · refine .inr ⟨k,c',e,z'.sameBut hs ?_⟩
          rintro rfl
          exact hj (nodup_ix hN e1 (I.ok.inj _ _ _ e hc ▸ hi))
    · by_cases hcc : c' = c
      · subst hcc; exact ⟨_,hc'⟩
      · obtain ⟨w2,z2⟩ := I.cell y c' e
        exact ⟨w2,z2.sameBut hs hcc⟩
    · obtain ⟨e,n,ne,nf,d⟩ := I.pin p hp
      refine ⟨(hs.2 p.1 ?_).trans e,n,ne,nf,d⟩
      intro q
      rw [q,hoc] at e
      have q' : oc = p.2 := Option.some.inj e
      exact d w' (by rw [← q']; exact hocd)
theorem store_ok {M : Model} {A : Around} {E : Value → Shared → Prop} {i : Nat} {x : Str} {v : V} {u : Value} {Q : Unit → Shared → Prop} (I : Inv X pins σ H s) (hN : X.N.Nodup) (hi : X.N[i]? = some x) (hx : Loc X.env.scope x) (r : RelV v u)
    (h : ∀ s',Inv X pins (σ.set i (some v)) H s' → Q () s') (hf : X.fn x = true ∨ X.env.scope.names.lookup x = some .local := by first | exact .inl rfl | exact .inr rfl | assumption) : wpAny M A (storeName X.env x u) Q E s :=
  store_ok2 I hN hi hx r (fun s' I' _ => h s' I') hf
theorem Inv.call' {s' : Shared} {ch : List Addr} (I : Inv X pins σ H s) (ho : s'.os = s.os) (u : Un (frs X.stack) ch H H' s.heap s'.heap) (hok : HOk X.prog X.w H' s'.heap) (hg : AllBare s'.gens)
    (hch : ∀ b ∈ ch,(b ∈ X.ex ∨ X.s₀.heap.objs.size ≤ b) ∧ b ≠ X.env.locals ∧ (∀ x c,X.env.cells.lookup x = some c → c ≠ b) ∧ ∀ p ∈ X.pn ++ pins,p.1 ≠ b) : Inv X pins σ H' s' := by
  obtain ⟨h',g',d',t',o'⟩ := s'
  have e : o' = s.os := ho
  subst e
  exact I.call (g' := g') (t' := t') (d' := d') u hok hg hch
end
abbrev XK := Value → Option Addr → Hp → Prop
abbrev St := List (Option V)
abbrev VK := V → Hp → Prop
abbrev TE := St → Hp → VK → Prop
abbrev TT := St → Hp → (Bool → Hp → Prop) → Prop
abbrev TA := St → Hp → (List V → Hp → Prop) → Prop
structure Ends where
  nx : St → Hp → Prop
  rt : VK
  bk : St → Hp → Prop := fun _ _ => False
  ct : St → Hp → Prop := fun _ _ => False
abbrev TS := Ends → St → Hp → Prop
def EP (X : Cx) (pins : List (Addr × Obj)) (σ : St) (Q : VK) (u : Value) (s' : Shared) : Prop := ∃ v H',Inv X pins σ H' s' ∧ RelV v u ∧ Q v H'
def TP (X : Cx) (pins : List (Addr × Obj)) (σ : St) (Q : Bool → Hp → Prop) (b : Bool) (s' : Shared) : Prop := ∃ H',Inv X pins σ H' s' ∧ Q b H'
def AP (X : Cx) (pins : List (Addr × Obj)) (σ : St) (Q : List V → Hp → Prop) (us : List Value) (s' : Shared) : Prop := ∃ vs H',Inv X pins σ H' s' ∧ Vals vs us ∧ Q vs H'
def SP (X : Cx) (pins : List (Addr × Obj)) (D : Ends) (f : Flow) (s' : Shared) : Prop :=
  match f with
  | .next => ∃ σ' H',Inv X pins σ' H' s' ∧ D.nx σ' H'
  | .brk => ∃ σ' H',Inv X pins σ' H' s' ∧ D.bk σ' H'
  | .cont => ∃ σ' H',Inv X pins σ' H' s' ∧ D.ct σ' H'
  | .ret u => ∃ v σ' H',Inv X pins σ' H' s' ∧ RelV v u ∧ D.rt v H'
def PE (X : Cx) (e : Expr) (t : TE) : Prop :=
  ∀ (pins : List (Addr × Obj)) (s : Shared) (σ : St) (H : Hp) (Q : VK),Inv X pins σ H s → t σ H Q → wpAny (model X.prog X.w) X.A (eval e X.env) (EP X pins σ Q) X.xe s
def PT (X : Cx) (e : Expr) (t : TT) : Prop :=
  ∀ (pins : List (Addr × Obj)) (s : Shared) (σ : St) (H : Hp) (Q : Bool → Hp → Prop),Inv X pins σ H s → t σ H Q → wpAny (model X.prog X.w) X.A (isTrue e X.env (eval e X.env)) (TP X pins σ Q) X.xe s
def PW (X : Cx) (e : Expr) (t : TT) : Prop :=
  ∀ (whole : Sem Value) (pins : List (Addr × Obj)) (s : Shared) (σ : St) (H : Hp) (Q : Bool → Hp → Prop),Inv X pins σ H s → t σ H Q → wpAny (model X.prog X.w) X.A (isTrue e X.env whole) (TP X pins σ Q) X.xe s
theorem PW.pt {X : Cx} {e : Expr} {t : TT} (h : PW X e t) : PT X e t := h _
def PA (X : Cx) (es : List Expr) (t : TA) : Prop :=
  ∀ (pos : Pos) (pins : List (Addr × Obj)) (s : Shared) (σ : St) (H : Hp) (Q : List V → Hp → Prop),Inv X pins σ H s → t σ H Q → wpAny (model X.prog X.w) X.A (spliced (backTo pos (starEach es X.env))) (AP X pins σ Q) X.xe s
def PS (X : Cx) (st : Stmt) (t : TS) : Prop :=
  ∀ (pins : List (Addr × Obj)) (s : Shared) (σ : St) (H : Hp) (D : Ends),Inv X pins σ H s → t D σ H → wpAny (model X.prog X.w) X.A (exec st X.env) (SP X pins D) X.xe s
def PSs (X : Cx) (st : List Stmt) (t : TS) : Prop :=
  ∀ (pins : List (Addr × Obj)) (s : Shared) (σ : St) (H : Hp) (D : Ends),Inv X pins σ H s → t D σ H → wpAny (model X.prog X.w) X.A (execs st X.env) (SP X pins D) X.xe s
theorem thn {α : Type} {t : Sem α} {Q Q' : α → Shared → Prop} {M : Model} {A : Around} {E : Value → Shared → Prop} {s : Shared} (h : wpAny M A t Q E s) (hQ : ∀ a s,Q a s → Q' a s) : wpAny M A t Q' E s := wpAny_mono h hQ fun _ _ x => x
end L2
namespace L2
open PySem PySem.Spec PyProof.Rows
section
variable {X : Cx}
def tVar (i : Nat) : TE := fun σ H Q => ∃ v,σ[i]? = some (some v) ∧ Q v H
def tC (v : V) : TE := fun _ H Q => Q v H
theorem pe_var {i : Nat} {x : Str} {pos : Pos} (hN : X.N[i]? = some x) (hv : Vis X.env.scope x) (hd : (x == ("__debug__" : Str)) = false := by decide) (hcd : (x == ("__classdict__" : Str)) = false := by decide) : PE X (.Name x pos) (tVar i) := by
  intro pins s σ H Q I h
  obtain ⟨v,e,h⟩ := h
  obtain ⟨m,hn,hl⟩ := I.loc
  obtain ⟨u,r,l⟩ := hl i x v hN e hv
  have fin : EP X pins σ Q u s := ⟨v,H,I,r,h⟩
  rcases l with ⟨hk,hm⟩ | ⟨hk,c,hc,hcell⟩
  · exact wpAny_Name (wpAny_loadName_local I.ok.kind hk hn hm fin) hd
  · rcases hk with hk | hk
    · exact wpAny_Name (wpAny_loadName_cell I.ok.kind hk hc hcell fin) hd
    · exact wpAny_Name (wpAny_loadName_free I.ok.kind hk hc hcell fin hcd) hd
theorem pe_int {i j pos} : PE X (.Constant (.int i) j pos) (tC (.int i)) := fun _ _ _ H _ I h => wpAny_Constant_int ⟨.int i,H,I.tok _,⟨_,rfl⟩,h⟩
theorem pe_bl {b j pos} : PE X (.Constant (.bool b) j pos) (tC (.bl b)) := fun _ _ _ H _ I h => Constant_bool ⟨.bl b,H,I,rfl,h⟩
theorem pe_non {j pos} : PE X (.Constant .none j pos) (tC .non) := fun _ _ _ H _ I h => Constant_none ⟨.non,H,I,rfl,h⟩
theorem pe_str {x j pos} : PE X (.Constant (.str x) j pos) (tC (.str x)) := fun _ _ _ H _ I h => Calls.Constant_str ⟨.str x,H,I.tok _,⟨_,rfl⟩,h⟩
def Gl (X : Cx) (x : Str) : Prop := X.env.kindOf x = some .globalImplicit
theorem ld_glob {E : Value → Shared → Prop} {pins : List (Addr × Obj)} {s : Shared} {σ : St} {H : Hp} {x : Str} {u : Value} {pos : Pos} {Q : Value → Shared → Prop} (I : Inv X pins σ H s) (hg : Gl X x) (hm : X.mg x = some u) (h : Q u s)
    (hd : (x == ("__debug__" : Str)) = false := by decide) : wpAny (model X.prog X.w) X.A (eval (.Name x pos) X.env) Q E s :=
  Calls.Name_function_global I.ok.kind hg (Calls.loadGlobal_global (by rw [I.ok.glob]; exact I.mod.glob.keeps I.bk) hm h) hd
theorem ld_blt {E : Value → Shared → Prop} {pins : List (Addr × Obj)} {s : Shared} {σ : St} {H : Hp} {x : Str} {u : Value} {pos : Pos} {Q : Value → Shared → Prop} (I : Inv X pins σ H s) (hg : Gl X x) (hm : X.mg x = none) (hv : bootBuiltins x = some u) (h : Q u s)
    (hn : x ≠ "__name__" := by decide) (hd : (x == ("__debug__" : Str)) = false := by decide) : wpAny (model X.prog X.w) X.A (eval (.Name x pos) X.env) Q E s := by
  obtain ⟨mb,h1,h2⟩ := I.mod.blt
  exact Calls.Name_function_global I.ok.kind hg (Calls.loadGlobal_builtin (by rw [I.ok.glob]; exact I.mod.glob.keeps I.bk) hm (by rw [I.ok.blt]; exact h1.keeps I.bk) ((h2 x hn).trans hv) h) hd
theorem pe_bltn {x : Str} {v : V} {u : Value} {pos : Pos} (hg : Gl X x) (hm : X.mg x = none) (hv : bootBuiltins x = some u) (r : RelV v u) (hn : x ≠ "__name__" := by decide) (hd : (x == ("__debug__" : Str)) = false := by decide) : PE X (.Name x pos) (tC v) :=
  fun _ _ _ H _ I h => ld_blt I hg hm hv ⟨v,H,I,r,h⟩ hn hd
variable {a b : Expr} {ta tb : TE} {pos : Pos}
def PC (X : Cx) (op : CmpOp) (a b : Expr) (t : TE) : Prop :=
  ∀ (pins : List (Addr × Obj)) (s : Shared) (σ : St) (H : Hp) (Q : VK),Inv X pins σ H s → t σ H Q →
    wpAny (model X.prog X.w) X.A (eval a X.env) (fun v s₁ => wpAny (model X.prog X.w) X.A (eval b X.env) (fun u s₂ => wpAny (model X.prog X.w) X.A (compareOp op v u) (EP X pins σ Q) X.xe s₂) X.xe s₁) X.xe s
def tB (t : TE) : TT := fun σ H Q => t σ H fun x H1 => ∃ c,x = .bl c ∧ Q c H1
theorem pt_cmp {op : CmpOp} {t : TE} (h : PC X op a b t) (h1 : behindInMarks op b = false := by first | exact nobehind _ (by decide) (by decide) | rfl) : PT X (.Compare a [op] [b] pos) (tB t) := by
  intro pins s σ H Q I hw
  refine wpAny_isTrue_Compare1 (thn (h pins s σ H _ I hw) fun v s1 h1 => thn h1 fun u s2 h2 => thn h2 fun c s3 ⟨x,H1,I1,r1,q1⟩ => ?_) h1
  obtain ⟨d,rfl,q⟩ := q1
  cases r1
  exact wpAny_truthy_bool ⟨H1,I1,q⟩
theorem pt_val {e : Expr} {t : TE} (h : PE X e t) (he : ∀ whole,isTrue e X.env whole = (do let v ← whole; standAt e.pos; holding [v] (truthy v)) := by intro _; rfl) : PT X e (tB t) := by
  intro pins s σ H Q I hw
  refine isTrue_plain (thn (h pins s σ H _ I hw) fun v s1 ⟨x,H1,I1,r1,q1⟩ => ?_) (he _)
  obtain ⟨d,rfl,q⟩ := q1
  cases r1
  exact wpAny_truthy_bool ⟨H1,I1,q⟩
variable {tA tB' : TT} {rest : List Expr}
def tAnd (t u : TT) : TT := fun σ H Q => t σ H fun c H1 => if c = true then u σ H1 Q else Q false H1
def tOr (t u : TT) : TT := fun σ H Q => t σ H fun c H1 => if c = true then Q true H1 else u σ H1 Q
def tNot (t : TT) : TT := fun σ H Q => t σ H fun c H1 => Q (!c) H1
theorem pw_and1 (ha : PT X a tA) : PW X (.BoolOp .And [a] pos) tA := by
  intro wh pins s σ H Q I h
  refine isTrue_and (thn (ha pins s σ H Q I h) fun c s1 e => ?_)
  cases c with
  | true => exact isTrue_and_nil e
  | false => exact e
theorem pw_or1 (ha : PT X a tA) : PW X (.BoolOp .Or [a] pos) tA := by
  intro wh pins s σ H Q I h
  refine isTrue_or (thn (ha pins s σ H Q I h) fun c s1 e => ?_)
  cases c with
  | false => exact isTrue_or_nil e
  | true => exact e
theorem pw_and (ha : PT X a tA) (hb : PW X (.BoolOp .And (b :: rest) pos) tB') : PW X (.BoolOp .And (a :: b :: rest) pos) (tAnd tA tB') := by
  intro wh pins s σ H Q I h
  refine isTrue_and (thn (ha pins s σ H _ I h) fun c s1 ⟨H1,I1,q1⟩ => ?_)
  cases c with
  | true => exact hb wh pins s1 σ H1 Q I1 q1
  | false => exact ⟨H1,I1,q1⟩
theorem pw_or (ha : PT X a tA) (hb : PW X (.BoolOp .Or (b :: rest) pos) tB') : PW X (.BoolOp .Or (a :: b :: rest) pos) (tOr tA tB') := by
  intro wh pins s σ H Q I h
  refine isTrue_or (thn (ha pins s σ H _ I h) fun c s1 ⟨H1,I1,q1⟩ => ?_)
  cases c with
  | true => exact ⟨H1,I1,q1⟩
  | false => exact hb wh pins s1 σ H1 Q I1 q1
theorem pt_not (ha : PT X a tA) : PT X (.UnaryOp .Not a pos) (tNot tA) := by
  intro pins s σ H Q I h
  exact isTrue_not (ha pins s σ H (fun c H1 => Q (!c) H1) I h)
def tAndV (ta tb : TE) : TE := fun σ H Q => ta σ H fun x H1 => ∃ c,x = .bl c ∧ if c = true then tb σ H1 Q else Q (.bl false) H1
def tOrV (ta tb : TE) : TE := fun σ H Q => ta σ H fun x H1 => ∃ c,x = .bl c ∧ if c = true then Q (.bl true) H1 else tb σ H1 Q
def tNotV (ta : TE) : TE := fun σ H Q => ta σ H fun x H1 => ∃ c,x = .bl c ∧ Q (.bl (!c)) H1
theorem pe_one {op} {t : TE} (h : PE X a t) : PE X (.BoolOp op [a] pos) t := fun pins s σ H Q I hw => BoolOp_one (h pins s σ H Q I hw)
theorem pe_and (ha : PE X a ta) (hb : PE X (.BoolOp .And (b :: rest) pos) tb) : PE X (.BoolOp .And (a :: b :: rest) pos) (tAndV ta tb) := by
  intro pins s σ H Q I h
  refine BoolOp_and (thn (ha pins s σ H _ I h) fun v s1 ⟨x,H1,I1,r1,q1⟩ => ?_)
  obtain ⟨c,rfl,q1⟩ := q1
  cases r1
  refine wpAny_truthy_bool ?_
  cases c with
  | true => exact hb pins s1 σ H1 Q I1 q1
  | false => exact ⟨.bl false,H1,I1,rfl,q1⟩
theorem pe_or (ha : PE X a ta) (hb : PE X (.BoolOp .Or (b :: rest) pos) tb) : PE X (.BoolOp .Or (a :: b :: rest) pos) (tOrV ta tb) := by
  intro pins s σ H Q I h
  refine BoolOp_or (thn (ha pins s σ H _ I h) fun v s1 ⟨x,H1,I1,r1,q1⟩ => ?_)
  obtain ⟨c,rfl,q1⟩ := q1
  cases r1
  refine wpAny_truthy_bool ?_
  cases c with
  | false => exact hb pins s1 σ H1 Q I1 q1
  | true => exact ⟨.bl true,H1,I1,rfl,q1⟩
theorem pe_not (ha : PE X a ta) : PE X (.UnaryOp .Not a pos) (tNotV ta) := by
  intro pins s σ H Q I h
  refine UnaryOp_ (thn (ha pins s σ H _ I h) fun v s1 ⟨x,H1,I1,r1,q1⟩ => ?_)
  obtain ⟨c,rfl,q1⟩ := q1
  cases r1
  exact not_of (wpAny_truthy_bool ⟨.bl (!c),H1,I1,rfl,q1⟩)
end
end L2
namespace L2
open PySem PySem.Spec PyProof.Rows
def SqL (K : PySem.W.Frag) (H : Hp) (a : Addr) (xs : List V) : Prop :=
  Rd H a (.lst xs) ∨
    ∃ (o : Obj) (its : Array Value) (n : Nat),K.lookup a = some o ∧ o.cls = .type "list" ∧ o.dict = none ∧ o.data = .seq its n ∧ its.size ≤ sizeLine ∧ Vals xs its.toList
def SqT (K : PySem.W.Frag) (H : Hp) (a : Addr) (xs : List V) : Prop :=
  Rd H a (.tup xs) ∨
    ∃ (o : Obj) (its : Array Value) (n : Nat),K.lookup a = some o ∧ o.cls = .type "tuple" ∧ o.data = .seq its n ∧ its.size ≤ sizeLine ∧ Vals xs its.toList
def absV : Value → Option V
  | .none => some .non
  | .bool b => some (.bl b)
  | .int i _ => some (.int i)
  | .str x _ => some (.str x)
  | .bytes b _ => some (.byt b)
  | .float b _ => some (.flt b)
  | .ref a => some (.ref a)
  | .type n => some (.ty n)
  | _ => none
theorem RelV.abs {x : V} {u : Value} (r : RelV x u) : absV u = some x := by
  cases x with
  | non => cases r; rfl
  | bl _ => cases r; rfl
  | int _ => obtain ⟨t,rfl⟩ := r; rfl
  | str _ => obtain ⟨t,rfl⟩ := r; rfl
  | byt _ => obtain ⟨t,rfl⟩ := r; rfl
  | flt _ => obtain ⟨t,rfl⟩ := r; rfl
  | ref _ => cases r; rfl
  | ty _ => cases r; rfl
theorem RelV.inj {x y : V} {u : Value} (r : RelV x u) (q : RelV y u) : x = y := Option.some.inj (r.abs.symm.trans q.abs)
theorem Vals.inj : ∀ {xs ys : List V} {us : List Value},Vals xs us → Vals ys us → xs = ys
  | _,_,_,.nil,.nil => rfl
  | _,_,_,.cons r t,.cons r' t' => by rw [r.inj r',Vals.inj t t']
section
variable {X : Cx} {pins : List (Addr × Obj)} {σ : St} {H : Hp} {s : Shared} {a : Addr} {xs ys : List V}
theorem SqL.of {K : PySem.W.Frag} (h : H a = some (.lst xs)) : SqL K H a xs := .inl (.inl h)
theorem SqT.of {K : PySem.W.Frag} (h : H a = some (.tup xs)) : SqT K H a xs := .inl (.inl h)
theorem Inv.list (I : Inv X pins σ H s) (h : SqL X.K H a xs) : ∃ its : List Value,Vals xs its ∧ PlainL s.heap a its.toArray ∧ xs.length ≤ sizeLine := by
  rcases h with h | ⟨o,its,n,hk,hc,hd,hs,hz,r⟩
  · obtain ⟨z,its,n,r,e⟩ := h.ok I.hok
    exact ⟨its,r,⟨_,n,e,rfl,rfl,rfl⟩,z⟩
  · refine ⟨its.toList,r,⟨o,n,I.kIn a o hk,hc,hd,by simpa using hs⟩,?_⟩
    have e := r.length
    simp only [Array.length_toList] at e
    omega
theorem Inv.tuple (I : Inv X pins σ H s) (h : SqT X.K H a xs) : ∃ its : List Value,Vals xs its ∧ IsTup s.heap a its.toArray ∧ xs.length ≤ sizeLine := by
  rcases h with h | ⟨o,its,n,hk,hc,hs,hz,r⟩
  · obtain ⟨z,its,r,p⟩ := h.ok I.hok
    exact ⟨its,r,p,z⟩
  · refine ⟨its.toList,r,⟨o,I.kIn a o hk,hc,n,by simpa using hs⟩,?_⟩
    have e := r.length
    simp only [Array.length_toList] at e
    omega
theorem Inv.list_inj (I : Inv X pins σ H s) (h : SqL X.K H a xs) (h' : SqL X.K H a ys) : xs = ys := by
  obtain ⟨its,r,⟨o,n,e,_,_,d⟩,_⟩ := I.list h
  obtain ⟨its',r',⟨o',n',e',_,_,d'⟩,_⟩ := I.list h'
  rw [e] at e'; cases e'
  rw [d] at d'
  injection d' with d1 _
  have : its = its' := by simpa using congrArg Array.toList d1
  subst this
  exact r.inj r'
end
abbrev Cx.wish (X : Cx) (E : Value → Shared → Prop) : Cx := { X with xe := E }
abbrev Cx.nox (X : Cx) : Cx := X.wish fun _ _ => False
theorem Cx.Ok.wish {X : Cx} (ok : X.Ok) (E : Value → Shared → Prop) : (X.wish E).Ok :=
  ⟨ok.mod,ok.kind,ok.glob,ok.blt,ok.above,ok.inj,ok.has,ok.cab,ok.hd,ok.frames,ok.stk,ok.exf,ok.bs,ok.bsz,ok.noex,ok.exfs,ok.funs,ok.frf⟩
theorem Cx.Ok.unwish {X : Cx} {E : Value → Shared → Prop} (ok : (X.wish E).Ok) : X.Ok :=
  ⟨ok.mod,ok.kind,ok.glob,ok.blt,ok.above,ok.inj,ok.has,ok.cab,ok.hd,ok.frames,ok.stk,ok.exf,ok.bs,ok.bsz,ok.noex,ok.exfs,ok.funs,ok.frf⟩
section
variable {X : Cx} {pins : List (Addr × Obj)} {σ : St} {H : Hp} {s : Shared} {E : Value → Shared → Prop}
theorem Inv.wish (I : Inv X pins σ H s) (E : Value → Shared → Prop) : Inv (X.wish E) pins σ H s := ⟨I.ok.wish E,I.os,I.bare,I.base,I.loc,I.cell,I.free,I.freeC,I.pin,I.hok,I.len⟩
theorem Inv.unwish (I : Inv (X.wish E) pins σ H s) : Inv X pins σ H s := ⟨I.ok.unwish,I.os,I.bare,I.base,I.loc,I.cell,I.free,I.freeC,I.pin,I.hok,I.len⟩
theorem SP.unwish {D : Ends} {f : Flow} {s' : Shared} (h : SP (X.wish E) pins D f s') : SP X pins D f s' := by
  cases f with
  | next => obtain ⟨σ',H',I,q⟩ := h; exact ⟨σ',H',I.unwish,q⟩
  | brk => obtain ⟨σ',H',I,q⟩ := h; exact ⟨σ',H',I.unwish,q⟩
  | cont => obtain ⟨σ',H',I,q⟩ := h; exact ⟨σ',H',I.unwish,q⟩
  | ret u => obtain ⟨v,σ',H',I,r,q⟩ := h; exact ⟨v,σ',H',I.unwish,r,q⟩
theorem PSs.nox {st : List Stmt} {t : TS} (h : PSs X.nox st t) : PSs X st t := fun pins s σ H D I hw =>
  wpAny_mono (h pins s σ H D (I.wish _) hw) (fun _ _ q => q.unwish) fun _ _ z => False.elim z
end
section
variable {X : Cx} {st : Stmt} {rest : List Stmt} {t u : TS} {e : Expr} {te : TE} {pos : Pos}
def tNext : TS := fun D σ H => D.nx σ H
def tSeq (t u : TS) : TS := fun D σ H => t { D with nx := u D } σ H
theorem pss_nil : PSs X [] tNext := fun _ _ σ H _ I h => wpAny_execs_nil ⟨σ,H,I,h⟩
theorem pss_cons (h1 : PS X st t) (h2 : PSs X rest u) : PSs X (st :: rest) (tSeq t u) := by
  intro pins s σ H D I h
  refine wpAny_execs_cons (thn (h1 pins s σ H { D with nx := u D } I h) fun f s1 q => ?_)
  cases f with
  | next =>
    obtain ⟨σ',H',I',q⟩ := q
    exact h2 pins s1 σ' H' D I' q
  | ret v => exact q
  | brk => exact q
  | cont => exact q
theorem pss_one (h1 : PS X st t) : PSs X [st] t := by
  intro pins s σ H D I h
  refine wpAny_execs_cons (thn (h1 pins s σ H D I h) fun f s1 q => ?_)
  cases f with
  | next => exact wpAny_execs_nil q
  | ret v => exact q
  | brk => exact q
  | cont => exact q
theorem Inv.quiet {pins : List (Addr × Obj)} {σ : St} {H : Hp} {s : Shared} (I : Inv X pins σ H s) : interactive X.env = false := by simp [interactive,I.ok.kind]
def tDrop (te : TE) : TS := fun D σ H => te σ H fun _ H1 => D.nx σ H1
theorem ps_expr (he : PE X e te) (hs : swapsWith e none pos.line X.env = pure false := by rfl) : PS X (.Expr e pos) (tDrop te) := by
  intro pins s σ H D I h
  exact wpAny_Expr_any (thn (he pins s σ H _ I h) fun v s1 ⟨x,H1,I1,r1,q1⟩ => ⟨σ,H1,I1,q1⟩) I.quiet hs
def tRet (te : TE) : TS := fun D σ H => te σ H D.rt
theorem ps_ret (he : PE X e te) : PS X (.Return (some e) pos) (tRet te) := by
  intro pins s σ H D I h
  exact wpAny_Return_some (thn (he pins s σ H _ I h) fun v s1 ⟨x,H1,I1,r1,q1⟩ => ⟨x,σ,H1,I1,r1,q1⟩)
def tIfS (c : TT) (t u : TS) : TS := fun D σ H => c σ H fun b H1 => if b = true then t D σ H1 else u D σ H1
theorem ps_if {c : Expr} {a b : List Stmt} {tc : TT} (hc : PT X c tc) (ha : PSs X a t) (hb : PSs X b u) : PS X (.If c a b pos) (tIfS tc t u) := by
  intro pins s σ H D I h
  refine wpAny_If (thn (hc pins s σ H _ I h) fun d s1 ⟨H1,I1,q1⟩ => ?_)
  cases d with
  | true => exact ha pins s1 σ H1 D I1 q1
  | false => exact hb pins s1 σ H1 D I1 q1
end
abbrev TG := V → St → Hp → (St → Hp → Prop) → Prop
abbrev TGs := List V → St → Hp → (St → Hp → Prop) → Prop
def PG (X : Cx) (target : Expr) (t : TG) : Prop :=
  ∀ (pins : List (Addr × Obj)) (s : Shared) (σ : St) (H : Hp) (v : V) (u : Value) (Q : St → Hp → Prop),Inv X pins σ H s → RelV v u → t v σ H Q →
    wpAny (model X.prog X.w) X.A (assign target X.env u) (fun _ s' => ∃ σ' H',Inv X pins σ' H' s' ∧ Q σ' H') X.xe s
def PGs (X : Cx) (ts : List Expr) (t : TGs) : Prop :=
  ∀ (pins : List (Addr × Obj)) (s : Shared) (σ : St) (H : Hp) (vs : List V) (us : List Value) (Q : St → Hp → Prop),Inv X pins σ H s → Vals vs us → t vs σ H Q →
    wpAny (model X.prog X.w) X.A (assignInOrder ((assignEach ts X.env).map (·.2)) us) (fun _ s' => ∃ σ' H',Inv X pins σ' H' s' ∧ Q σ' H') X.xe s
abbrev TSet := V → V → V → Hp → (Hp → Prop) → Prop
def PSet (X : Cx) (t : TSet) : Prop :=
  ∀ (pins : List (Addr × Obj)) (s : Shared) (σ : St) (H : Hp) (o i v : V) (ov iv u : Value) (Q : Hp → Prop),Inv X pins σ H s → RelV o ov → RelV i iv → RelV v u → t o i v H Q →
    wpAny (model X.prog X.w) X.A (setItem ov iv u) (fun _ s' => ∃ H',Inv X pins σ H' s' ∧ Q H') X.xe s
abbrev TIp := V → V → Hp → VK → Prop
def PIp (X : Cx) (op : Operator) (t : TIp) : Prop :=
  ∀ (pins : List (Addr × Obj)) (s : Shared) (σ : St) (H : Hp) (x y : V) (v u : Value) (Q : VK),Inv X pins σ H s → RelV x v → RelV y u → t x y H Q →
    wpAny (model X.prog X.w) X.A (inplaceOp op v u) (EP X pins σ Q) X.xe s
section
variable {X : Cx} {pos : Pos}
def gName (i : Nat) : TG := fun v σ H Q => Q (σ.set i (some v)) H
theorem pg_name {i : Nat} {x : Str} (hN : X.N.Nodup) (hi : X.N[i]? = some x) (hx : Loc X.env.scope x) (hf : X.fn x = true ∨ X.env.scope.names.lookup x = some .local := by first | exact .inl rfl | exact .inr rfl | assumption) : PG X (.Name x pos) (gName i) := by
  intro pins s σ H v u Q I r h
  exact wpAny_assign_Name (store_ok I hN hi hx r (fun s' I' => ⟨_,H,I',h⟩) hf)
def gNil : TGs := fun vs σ H Q => vs = [] ∧ Q σ H
def gCons (t : TG) (u : TGs) : TGs := fun vs σ H Q => ∃ v r,vs = v :: r ∧ t v σ H fun σ' H' => u r σ' H' Q
theorem pgs_nil : PGs X [] gNil := by
  intro pins s σ H vs us Q I r h
  obtain ⟨e,h⟩ := h
  subst e
  cases r
  exact assignInOrder_nil ⟨σ,H,I,h⟩
theorem pgs_cons {e : Expr} {es : List Expr} {t : TG} {u : TGs} (h1 : PG X e t) (h2 : PGs X es u)
    (hs : (assignEach (e :: es) X.env).map (·.2) = assign e X.env :: (assignEach es X.env).map (·.2) := by rfl) : PGs X (e :: es) (gCons t u) := by
  intro pins s σ H vs us Q I r h
  obtain ⟨v,vr,e1,h⟩ := h
  subst e1
  cases r with
  | cons r rr =>
    rw [hs]
    refine assignInOrder_cons (thn (h1 pins s σ H _ _ _ I r h) fun _ s1 ⟨σ1,H1,I1,q1⟩ => ?_)
    exact h2 pins s1 σ1 H1 _ _ Q I1 rr q1
def gTup (K : PySem.W.Frag) (n : Nat) (t : TGs) : TG := fun v σ H Q => ∃ a xs,v = .ref a ∧ SqT K H a xs ∧ xs.length = n ∧ t xs σ H Q
theorem pg_tup {es : List Expr} {k : Nat} {t : TGs} {n : Nat} (hc : X.calm = true) (h : PGs X es t)
    (hn : (assignEach es X.env).length = n := by rfl) (hst : (assignEach es X.env).findIdx? (·.1) = none := by rfl) : PG X (.Tuple es k pos) (gTup X.K n t) := by
  intro pins s σ H v u Q I r hw
  obtain ⟨a,xs,e1,hq,hl,hw⟩ := hw
  subst e1
  cases r
  obtain ⟨its,rv,ht,hz⟩ := I.tuple hq
  refine assign_Tuple_tuple (I.ok.hd hc) ht (by simp [hn,← hl,rv.length]) hst fun h' hx => ?_
  have I1 : Inv X pins σ H { s with heap := h' } := I.kept (t' := s.toks) fun b o e => hx b o (Nat.ne_of_lt (Heap.lt_size e)) e
  exact h pins _ σ H xs _ Q I1 (by simpa using rv) hw
def gSub (to ti : TE) (t : TSet) : TG := fun v σ H Q => to σ H fun o H1 => ti σ H1 fun i H2 => t o i v H2 fun H3 => Q σ H3
theorem pg_sub {o i : Expr} {to ti : TE} {t : TSet} (ho : PE X o to) (hi : PE X i ti) (hs : PSet X t)
    (ha : ∀ v,assign (.Subscript o i pos) X.env v = (do
      let ov ← holding [v] (eval o X.env)
      let iv ← holding [v,ov] (eval i X.env)
      standAt pos
      holding [v,ov,iv] (setItem ov iv v)
      release [v,ov,iv] []) := by intro _; rfl) : PG X (.Subscript o i pos) (gSub to ti t) := by
  intro pins s σ H v u Q I r h
  rw [ha]
  refine wpAny_bind (wpAny_holding (thn (ho pins s σ H _ I h) fun ov s1 ⟨x,H1,I1,r1,q1⟩ => ?_))
  refine wpAny_bind (wpAny_holding (thn (hi pins s1 σ H1 _ I1 q1) fun iv s2 ⟨y,H2,I2,r2,q2⟩ => ?_))
  refine wpAny_bind (wpAny_standAt (wpAny_bind (wpAny_holding (thn (hs pins s2 σ H2 x y v ov iv u _ I2 r1 r2 r q2) fun _ s3 ⟨H3,I3,q3⟩ => ?_))))
  exact wpAny_release ⟨σ,H3,I3,q3⟩
def tAsg (te : TE) (g : TG) : TS := fun D σ H => te σ H fun x H1 => g x σ H1 D.nx
theorem ps_asg {tg e : Expr} {te : TE} {g : TG} (he : PE X e te) (hg : PG X tg g) (hs : swapsWithSole [tg] e pos.line X.env = pure false := by rfl) (hw : swappedStores [tg] e X.env = pure none := by rfl)
    (h1 : (assignEach [tg] X.env).map (·.2) = [assign tg X.env] := by rfl) : PS X (.Assign [tg] e pos) (tAsg te g) := by
  intro pins s σ H D I h
  refine wpAny_Assign_stores (thn (he pins s σ H _ I h) fun v s1 ⟨x,H1,I1,r1,q1⟩ => ?_) hs hw
  rw [h1]
  exact thn (hg pins s1 σ H1 x v _ I1 r1 q1) fun _ s2 q => q
theorem ps_set {i : Nat} {x : Str} {e : Expr} {te : TE} {pos' : Pos} (hN : X.N.Nodup) (hi : X.N[i]? = some x) (hx : Loc X.env.scope x) (he : PE X e te) (hs : swapsWith e (some (.Name x pos')) pos.line X.env = pure false := by rfl) (hf : X.fn x = true ∨ X.env.scope.names.lookup x = some .local := by first | exact .inl rfl | exact .inr rfl | assumption) :
    PS X (.Assign [.Name x pos'] e pos) (tAsg te (gName i)) := by
  intro pins s σ H D I h
  refine wpAny_Assign_Name (thn (he pins s σ H _ I h) fun v s1 ⟨y,H1,I1,r1,q1⟩ => ?_) hs
  exact store_ok I1 hN hi hx r1 (fun s2 I2 => ⟨_,H1,I2,q1⟩) hf
def tPar (i j : Nat) (ta : TA) : TS := fun D σ H => ta σ H fun vs H1 => ∃ v w,vs = [v,w] ∧ D.nx ((σ.set i (some v)).set j (some w)) H1
theorem ps_par {i j : Nat} {x y : Str} {a b : Expr} {ta : TA} {px py pt : Pos} {kt k2 pt2} (hc : X.calm = true) (hN : X.N.Nodup) (hi : X.N[i]? = some x) (hj : X.N[j]? = some y) (hij : i ≠ j)
    (hx : X.env.scope.names.lookup x = some .local) (hy : X.env.scope.names.lookup y = some .local) (ha : PA X [a,b] ta)
    (hw : swappedStores [.Tuple [.Name x px,.Name y py] kt pt] (.Tuple [a,b] k2 pt2) X.env = pure (some [x,y]))
    (hs : swapsWithSole [.Tuple [.Name x px,.Name y py] kt pt] (.Tuple [a,b] k2 pt2) pos.line X.env = pure false := by rfl) :
    PS X (.Assign [.Tuple [.Name x px,.Name y py] kt pt] (.Tuple [a,b] k2 pt2) pos) (tPar i j ta) := by
  intro pins s σ H D I h
  rw [exec_Assign_arm]
  refine wpAny_bind (wpAny_standAt ?_)
  rw [hs]
  refine wpAny_bind (wpAny_pure ?_)
  rw [if_neg (by decide)]
  refine wpAny_bind (Tuple_ (thn (ha _ pins s σ H _ I h) fun us s1 ⟨vs,H1,I1,r1,q1⟩ => ?_))
  obtain ⟨v,w,e1,q1⟩ := q1
  subst e1
  obtain ⟨u1,u2,rfl,rv,rw'⟩ : ∃ u1 u2,us = [u1,u2] ∧ RelV v u1 ∧ RelV w u2 := by
    cases r1 with
    | cons p q =>
      cases q with
      | cons p' q' =>
        cases q'
        exact ⟨_,_,rfl,p,p'⟩
  refine wpAny_newObj_type ?_ (by show 2 ≤ sizeLine; decide)
  have I2 : Inv X pins σ H1 { s1 with heap := s1.heap.push { cls := .type "tuple",data := .seq [u1,u2].toArray } } := I1.kept (t' := s1.toks) fun b o e => Heap.get?_push_of_some _ e
  rw [hw]
  refine wpAny_bind (wpAny_pure ?_)
  show wpAny (model X.prog X.w) X.A (do rule "assign.swapped-stores"; let items ← unpackItems (.ref s1.heap.objs.size) 2 none; assignInOrder [fun v => bindName X.env y v,fun v => bindName X.env x v] items.reverse; pure Flow.next) _ _ _
  refine wpAny_bind (wpAny_rule (wpAny_bind (unpackItems_tuple (items := #[u1,u2]) (I.ok.hd hc) (IsTup.new s1.heap _) fun h' hx' => ?_)))
  have I3 := I2.kept (h' := h') (t' := s1.toks) fun b o e => hx' b o (Nat.ne_of_lt (Heap.lt_size e)) e
  show wpAny _ _ (assignInOrder [fun v => bindName X.env y v,fun v => bindName X.env x v] [u2,u1] >>= fun _ => pure Flow.next) _ _ _
  refine wpAny_bind (assignInOrder_cons (wpAny_bindName (store_ok I3 hN hj (.inl hy) rw' (fun s2 I4 => ?_) (.inr hy))))
  refine assignInOrder_cons (wpAny_bindName (store_ok I4 hN hi (.inl hx) rv (fun s3 I5 => assignInOrder_nil (wpAny_pure ?_)) (.inr hx)))
  rw [List.set_comm _ _ (Ne.symm hij)] at I5
  exact ⟨_,H1,I5,q1⟩
def tAug (i : Nat) (te : TE) (ti : TIp) : TS := fun D σ H => ∃ x,σ[i]? = some (some x) ∧ te σ H fun y H1 => ti x y H1 fun z H2 => D.nx (σ.set i (some z)) H2
theorem ps_aug {i : Nat} {x : Str} {e : Expr} {te : TE} {op : Operator} {ti : TIp} {pos' : Pos} (hN : X.N.Nodup) (hi : X.N[i]? = some x) (hx : Loc X.env.scope x) (he : PE X e te) (ho : PIp X op ti) (hf : X.fn x = true ∨ X.env.scope.names.lookup x = some .local := by first | exact .inl rfl | exact .inr rfl | assumption) :
    PS X (.AugAssign (.Name x pos') op e pos) (tAug i te ti) := by
  intro pins s σ H D I h
  obtain ⟨v,e1,h⟩ := h
  obtain ⟨m,hn,hl⟩ := I.loc
  have vis : Vis X.env.scope x := by rcases hx with k | k; exact .inl k; exact .inr (.inl k)
  obtain ⟨u,r,l⟩ := hl i x v hi e1 vis
  refine wpAny_AugAssign_Name ?_
  have go : wpAny (model X.prog X.w) X.A (eval e X.env) (fun w s₂ => wpAny (model X.prog X.w) X.A (inplaceOp op u w) (fun r s₃ => wpAny (model X.prog X.w) X.A (storeName X.env x r) (fun _ => SP X pins D .next) X.xe s₃) X.xe s₂) X.xe s := by
    refine thn (he pins s σ H _ I h) fun w s1 ⟨y,H1,I1,r1,q1⟩ => ?_
    refine thn (ho pins s1 σ H1 v y u w _ I1 r r1 q1) fun z s2 ⟨zv,H2,I2,r2,q2⟩ => ?_
    exact store_ok I2 hN hi hx r2 (fun s3 I3 => ⟨_,H2,I3,q2⟩) hf
  rcases l with ⟨hk,hm⟩ | ⟨hk,c,hc,hcell⟩
  · exact wpAny_loadName_local I.ok.kind hk hn hm go
  · rcases hk with hk | hk
    · exact wpAny_loadName_cell I.ok.kind hk hc hcell go
    · rcases hx with k | k
      · have : X.env.scope.names.lookup x = some .free := hk
        rw [k] at this; cases this
      · have : X.env.scope.names.lookup x = some .free := hk
        rw [k] at this; cases this
def ipI (f : Int → Int → Int) : TIp := fun x y H Q => ∃ i j,x = .int i ∧ y = .int j ∧ Q (.int (f i j)) H
theorem ip_add : PIp X .Add (ipI fun i j => i + j) := by
  intro pins s σ H x y v u Q I r1 r2 h
  obtain ⟨i,j,e1,e2,q⟩ := h
  subst e1; subst e2
  obtain ⟨t,rfl⟩ := r1
  obtain ⟨t',rfl⟩ := r2
  exact iadd_int ⟨.int _,H,I.tok _,⟨_,rfl⟩,q⟩
end
section
variable {X : Cx} {pos : Pos}
def tWhile (c : TT) (tb : TS) : TS := fun D σ H => ∃ W : Nat → St → Hp → Prop,(∃ m,W m σ H) ∧ ∀ m σ H,W m σ H →
  c σ H fun b H1 => if b = true then ∃ N : St → Hp → Prop,(∀ σ' H',N σ' H' → ∃ m',m' < m ∧ W m' σ' H') ∧ tb { D with nx := N,ct := N,bk := D.nx } σ H1 else D.nx σ H1
theorem ps_while {c : Expr} {body : List Stmt} {tc : TT} {tb : TS} (hp : PassesOwn (model X.prog X.w) X.A X.env X.xe) (hc : PT X c tc) (hb : PSs X body tb) : PS X (.While c body [] pos) (tWhile tc tb) := by
  intro pins s σ H D I h
  obtain ⟨W,⟨m0,w0⟩,turn⟩ := h
  refine wpAny_While (codeAny_whileLoop (fun n s' => ∃ σ' H',Inv X pins σ' H' s' ∧ W n σ' H') ?_ m0 ⟨σ,H,I,w0⟩)
  rintro n s1 ⟨σ1,H1,I1,w1⟩
  refine wpAny_passesOwn hp (thn (hc pins s1 σ1 H1 _ I1 (turn n σ1 H1 w1)) fun b s2 ⟨H2,I2,q2⟩ => ?_)
  cases b with
  | true =>
    obtain ⟨N,hN,q2⟩ := q2
    rw [if_pos rfl]
    refine wpAny_passesOwn hp (thn (hb pins s2 σ1 H2 _ I2 q2) fun f s3 q3 => ?_)
    cases f with
    | next =>
      obtain ⟨σ3,H3,I3,n3⟩ := q3
      obtain ⟨m',hm,w3⟩ := hN σ3 H3 n3
      exact ⟨m',hm,σ3,H3,I3,w3⟩
    | cont =>
      obtain ⟨σ3,H3,I3,n3⟩ := q3
      obtain ⟨m',hm,w3⟩ := hN σ3 H3 n3
      exact ⟨m',hm,σ3,H3,I3,w3⟩
    | brk => exact q3
    | ret v => exact q3
  | false =>
    rw [if_neg Bool.false_ne_true]
    exact wpAny_execs_nil ⟨σ1,H2,I2,q2⟩
end
structure It where
  go : Nat → Hp → Prop
  yld : Nat → Hp → V → Hp → Prop
  stop : Nat → Hp → Prop
def FpOk (X : Cx) (pins : List (Addr × Obj)) (H : Hp) (b : Addr) : Prop :=
  H b = none ∧ b ≠ X.env.locals ∧ b ∉ X.fs ∧ (b ∈ X.ex ∨ X.s₀.heap.objs.size ≤ b) ∧ (∀ x c,X.env.cells.lookup x = some c → c ≠ b) ∧ ∀ p ∈ X.pn ++ pins,p.1 ≠ b
theorem Inv.fpOk {X : Cx} {pins : List (Addr × Obj)} {σ : St} {H H' : Hp} {s : Shared} {b : Addr} (I : Inv X pins σ H s) (hb : s.heap.objs.size ≤ b) (hn : H' b = none) : FpOk X pins H' b := by
  refine ⟨hn,Nat.ne_of_gt (Nat.lt_of_lt_of_le I.lt hb),I.nofs hb,.inr (Nat.le_trans I.sz hb),fun x c e z => ?_,fun p hp z => ?_⟩
  · obtain ⟨v,q⟩ := I.cell x c e
    exact absurd (Nat.lt_of_lt_of_le q.lt (by rw [z]; exact hb)) (Nat.lt_irrefl _)
  · exact absurd (Nat.lt_of_lt_of_le (Heap.lt_size (I.pin p hp).1) (by rw [z]; exact hb)) (Nat.lt_irrefl _)
structure Turn (P : Program) (w : World) (K : PySem.W.Frag) (tg : Expr) (J : It) (fp : List Addr) (it : Addr) (tn : Nat → Heap → Prop) : Prop where
  mem : it ∈ fp
  obj : ∀ i h,tn i h → ∀ b ∈ fp,∃ o,h.get? b = some o ∧ ∀ v,o.data ≠ .cell v
  keep : ∀ i h h',tn i h → (∀ b ∈ fp,∀ o,h.get? b = some o → h'.get? b = some o) → tn i h'
  item : ∀ (X : Cx),X.prog = P → X.w = w → X.K = K → X.calm = true → ∀ (i : Nat) (pins : List (Addr × Obj)) (s : Shared) (σ : St) (H : Hp) (E : Value → Shared → Prop),Inv X pins σ H s → (∀ b ∈ fp,FpOk X pins H b) → tn i s.heap → J.go i H →
    wpAny (model P w) X.A (pyNext (.ref it)) (fun r s1 => ∃ u,r = some u ∧
      wpAny (model P w) X.A (letOwnedTupleGo tg (.ref it) u) (fun _ s2 => ∃ x H',Inv X pins σ H' s2 ∧ RelV x u ∧ J.yld i H x H' ∧ tn (i + 1) s2.heap ∧ ∀ b ∈ fp,H' b = none) E s1) E s
  done : ∀ (X : Cx),X.prog = P → X.w = w → X.K = K → X.calm = true → ∀ (i : Nat) (pins : List (Addr × Obj)) (s : Shared) (σ : St) (H : Hp) (E : Value → Shared → Prop),Inv X pins σ H s → (∀ b ∈ fp,FpOk X pins H b) → tn i s.heap → J.stop i H →
    wpAny (model P w) X.A (pyNext (.ref it)) (fun r s1 => r = none ∧ Inv X pins σ H s1) E s
  self : ∀ (A : Around) (i : Nat) (s : Shared) (Q : Value → Shared → Prop) (E : Value → Shared → Prop),tn i s.heap → Q (.ref it) s → wpAny (model P w) A (pyIter (.ref it)) Q E s
abbrev TI := St → Hp → (It → Hp → Prop) → Prop
def PIE (X : Cx) (pins : List (Addr × Obj)) (σ : St) (tg : Expr) (R : It → Hp → Prop) (itv : Value) (s2 : Shared) : Prop :=
  ∃ (it : Addr) (fp : List Addr) (tn : Nat → Heap → Prop) (J : It) (H' : Hp),itv = .ref it ∧ Inv X pins σ H' s2 ∧ Turn X.prog X.w X.K tg J fp it tn ∧ tn 0 s2.heap ∧ (∀ b ∈ fp,FpOk X pins H' b) ∧ R J H'
def PI (X : Cx) (tg iter : Expr) (wi : TI) : Prop :=
  ∀ (pins : List (Addr × Obj)) (s : Shared) (σ : St) (H : Hp) (R : It → Hp → Prop),Inv X pins σ H s → wi σ H R →
    wpAny (model X.prog X.w) X.A (eval iter X.env) (fun v s1 => wpAny (model X.prog X.w) X.A (pyIter v) (PIE X pins σ tg R) X.xe s1) X.xe s
theorem go_of {M : Model} {A : Around} {E : Value → Shared → Prop} {s : Shared} {tg : Expr} {it : Addr} {u : Value} {o : Obj} {n : String} {vs : Array Value} {Q : Unit → Shared → Prop} (ho : s.heap.get? it = some o) (hc : o.cls = .type n) (hd : o.data = .fields vs)
    (hn : ["enumerate","zip","dict_itemiterator","dict_reverseitemiterator","odict_iterator","itertools.zip_longest","itertools.pairwise"].contains n = false) (hQ : Q () s) : wpAny M A (letOwnedTupleGo tg (.ref it) u) Q E s := by
  unfold letOwnedTupleGo
  cases tg <;> first
    | exact wpAny_pure hQ
    | (cases u <;> first
        | exact wpAny_pure hQ
        | (refine wpAny_bind (wpAny_load ho ?_)
           rw [hc,hd]
           show wpAny M A (if (["enumerate","zip","dict_itemiterator","dict_reverseitemiterator","odict_iterator","itertools.zip_longest","itertools.pairwise"].contains n && vs[0]? == some (rawInt _)) = true then _ else _) Q E s
           rw [if_neg (by intro h; rw [hn,Bool.false_and] at h; cases h)]
           exact wpAny_pure hQ))
def Itl (K : PySem.W.Frag) (a : Addr) : It :=
  ⟨fun i H => ∃ xs x,SqL K H a xs ∧ xs[i]? = some x,fun i H x H' => H' = H ∧ ∀ xs,SqL K H a xs → xs[i]? = some x,fun i H => ∃ xs,SqL K H a xs ∧ xs.length ≤ i⟩
def Itr (lo : Int) (n : Nat) : It := ⟨fun i _ => i < n,fun i H x H' => H' = H ∧ x = .int (lo + i),fun i _ => n ≤ i⟩
theorem turn_list {P : Program} {w : World} {K : PySem.W.Frag} {tg : Expr} (a it : Addr) : Turn P w K tg (Itl K a) [it] it (fun i h => h.IsListIter it a i) where
  mem := by simp
  obj := fun i h st b hb => by
    have e : b = it := by simpa using hb
    subst e
    obtain ⟨o,e,c,d⟩ := st
    exact ⟨o,e,fun v z => by rw [d] at z; cases z⟩
  keep := fun i h h' st k => st.at fun o e => k it (by simp) o e
  item := by
    intro X hP hw hK hc i pins s σ H E I hf st hg
    subst hP hw hK
    obtain ⟨xs,x,hq,hx⟩ := hg
    obtain ⟨its,rv,p,hz⟩ := I.list hq
    obtain ⟨u,hu,ru⟩ := rv.get hx
    obtain ⟨f0,f1,f2,f3,f4,f5⟩ := hf it (by simp)
    refine wpAny_pyNext_list_item st p.isList (x := u) (by simpa using hu) fun h' st' sb => ?_
    have I1 : Inv X pins σ H { s with heap := h' } := I.turned (t' := s.toks) (fun b o hb e => (sb.2 b hb).trans e) f0 f1 f3 f4 f5
    obtain ⟨o,e,c,d⟩ := id st'
    exact ⟨u,rfl,go_of (s := { s with heap := h' }) e c d (by decide) ⟨x,H,I1,ru,⟨rfl,fun ys hy => by rw [I.list_inj hy hq]; exact hx⟩,st',fun b hb => (hf b hb).1⟩⟩
  done := by
    intro X hP hw hK hc i pins s σ H E I hf st hg
    subst hP hw hK
    obtain ⟨xs,hq,hx⟩ := hg
    obtain ⟨its,rv,p,hz⟩ := I.list hq
    obtain ⟨f0,f1,f2,f3,f4,f5⟩ := hf it (by simp)
    have hl := rv.length
    exact wpAny_pyNext_list_end (I.ok.hd hc) st p.isList (by simp; omega) fun h' eb => ⟨rfl,I.turned (t' := s.toks) (fun b o hb e => eb b o hb e) f0 f1 f3 f4 f5⟩
  self := fun _ _ _ _ _ st h => wpAny_pyIter_listiter st h
theorem turn_range {P : Program} {w : World} {K : PySem.W.Frag} {tg : Expr} (it : Addr) (lo : Int) (n : Nat) : Turn P w K tg (Itr lo n) [it] it (fun i h => IsRangeIter h it (lo + (i : Nat) * 1) ((n : Int) - (i : Nat)) 1) where
  mem := by simp
  obj := fun i h st b hb => by
    have e : b = it := by simpa using hb
    subst e
    exact ⟨_,st,fun v z => by
      have z' : Data.fields _ = Data.cell v := z
      cases z'⟩
  keep := fun i h h' st k => k it (by simp) _ st
  item := by
    intro X hP hw hK hc i pins s σ H E I hf st hg
    subst hP hw hK
    obtain ⟨f0,f1,f2,f3,f4,f5⟩ := hf it (by simp)
    have W := Walks.range (prog := X.prog) (w := X.w) (I.ok.hd hc) it lo 1 n
    refine W.item i s _ _ hg st fun v h' tk hv st' kk => ?_
    obtain ⟨t,rfl⟩ := hv
    have I1 : Inv X pins σ H { s with heap := h',toks := tk } := I.turned (fun b o hb e => kk b o (by simpa using hb) e) f0 f1 f3 f4 f5
    refine ⟨_,rfl,go_of (s := { s with heap := h',toks := tk }) (n := "range_iterator") st' rfl rfl (by decide) ⟨.int (lo + i),H,I1,⟨t,?_⟩,⟨rfl,rfl⟩,st',fun b hb => (hf b hb).1⟩⟩
    rw [Int.mul_one]
  done := by
    intro X hP hw hK hc i pins s σ H E I hf st hg
    subst hP hw hK
    obtain ⟨f0,f1,f2,f3,f4,f5⟩ := hf it (by simp)
    exact wpAny_pyNext_range_end (I.ok.hd hc) st (by have : n ≤ i := hg; omega) fun h' eb => ⟨rfl,I.turned (t' := s.toks) (fun b o hb e => eb b o hb e) f0 f1 f3 f4 f5⟩
  self := fun _ _ _ _ _ st h => wpAny_pyIter_rangeiter st h
end L2
namespace L2
open PySem PySem.Spec PyProof.Rows
section
variable {X : Cx} {tg : Expr}
def iList (K : PySem.W.Frag) (tl : TE) : TI := fun σ H R => tl σ H fun x H1 => ∃ a,x = .ref a ∧ (∃ xs,SqL K H1 a xs) ∧ R (Itl K a) H1
theorem pi_list {l : Expr} {tl : TE} (hl : PE X l tl) : PI X tg l (iList X.K tl) := by
  intro pins s σ H R I h
  refine thn (hl pins s σ H _ I h) fun v s1 ⟨x,H1,I1,r1,q1⟩ => ?_
  obtain ⟨a,e,⟨xs,hq⟩,q⟩ := q1
  subst e
  cases r1
  obtain ⟨its,rv,p,hz⟩ := I1.list hq
  refine wpAny_pyIter_list p.isList ?_
  refine ⟨s1.heap.objs.size,[s1.heap.objs.size],_,_,H1,rfl,I1.kept (t' := s1.toks) fun b o e => Heap.get?_push_of_some _ e,turn_list a _,⟨_,Heap.get?_push_size _ rfl,rfl,rfl⟩,fun b hb => ?_,q⟩
  have e : b = s1.heap.objs.size := by simpa using hb
  subst e
  exact I1.fpOk (Nat.le_refl _) (I1.hok.fresh (Nat.le_refl _))
theorem range_it {pins : List (Addr × Obj)} {σ : St} {H : Hp} {s : Shared} {R : It → Hp → Prop} {E : Value → Shared → Prop} {lo hi : Int} {t u v : Tok} {tk : Nat} (I : Inv X pins σ H s) (h1 : -(2 ^ 62) ≤ lo) (h2 : lo < 2 ^ 62) (h3 : -(2 ^ 62) ≤ hi) (h4 : hi < 2 ^ 62)
    (q : R (Itr lo (hi - lo).toNat) H) : wpAny (model X.prog X.w) X.A (pyIter (.ref s.heap.objs.size)) (PIE X pins σ tg R) E { s with heap := s.heap.push { cls := .type "range",data := .fields #[.int lo t,.int hi u,.int 1 v] },toks := tk } := by
  refine wpAny_pyIter_range (IsRange.new ..) (small_one h1 h2 h3 h4) ?_
  have I1 : Inv X pins σ H { s with heap := s.heap.push { cls := .type "range",data := .fields #[.int lo t,.int hi u,.int 1 v] },toks := tk } := I.kept fun b o e => Heap.get?_push_of_some _ e
  refine ⟨(s.heap.push { cls := .type "range",data := .fields #[.int lo t,.int hi u,.int 1 v] }).objs.size,[(s.heap.push { cls := .type "range",data := .fields #[.int lo t,.int hi u,.int 1 v] }).objs.size],_,_,H,rfl,
    I1.kept (t' := tk) fun b o e => Heap.get?_push_of_some _ e,turn_range _ lo (hi - lo).toNat,?_,fun b hb => ?_,q⟩
  · have e1 : lo + ((0 : Nat) : Int) * 1 = lo := by simp
    have e2 : (((hi - lo).toNat : Nat) : Int) - ((0 : Nat) : Int) = Builtin.Range.rangeSize lo hi 1 := by rw [rangeSize_one]; split <;> omega
    show IsRangeIter _ _ (lo + ((0 : Nat) : Int) * 1) ((((hi - lo).toNat : Nat) : Int) - ((0 : Nat) : Int)) 1
    rw [e1,e2]
    exact Heap.get?_push_size _ rfl
  · have e : b = (s.heap.push { cls := .type "range",data := .fields #[.int lo t,.int hi u,.int 1 v] }).objs.size := by simpa using hb
    subst e
    exact I1.fpOk (Nat.le_refl _) (I1.hok.fresh (Nat.le_refl _))
def iRng1 (ta : TA) : TI := fun σ H R => ta σ H fun vs H1 => ∃ j : Int,vs = [.int j] ∧ -(2 ^ 62) ≤ j ∧ j < 2 ^ 62 ∧ R (Itr 0 j.toNat) H1
theorem pi_range1 {a : Expr} {ta : TA} {p pos : Pos} (hg : Gl X "range") (hm : X.mg "range" = none) (ha : PA X [a] ta) (hs : starEach [a] X.env = [(false,eval a X.env)] := by rfl) : PI X tg (.Call (.Name "range" p) [a] [] pos) (iRng1 ta) := by
  intro pins s σ H R I h
  refine Call_ (ld_blt I hg hm boot_range (PyProof.Rows.callWith_type1 (thn (ha pos pins s σ H _ I h) fun us s1 ⟨vs,H1,I1,r1,q1⟩ => ?_) hs rfl))
  obtain ⟨j,e,q1,q2,q⟩ := q1
  subst e
  cases r1 with
  | cons r rr =>
    cases rr
    obtain ⟨t,rfl⟩ := r
    exact call_range_1 (range_it I1 (by omega) (by omega) q1 q2 (by simpa using q))
def tFor (wi : TI) (g : TG) (tb : TS) : TS := fun D σ H => wi σ H fun J H1 => ∃ W : Nat → Nat → St → Hp → Prop,(∃ m,W 0 m σ H1) ∧ ∀ i m σ H,W i m σ H →
  (J.stop i H ∧ D.nx σ H) ∨ (J.go i H ∧ ∃ N : St → Hp → Prop,(∀ σ' H',N σ' H' → ∃ m',m' < m ∧ W (i + 1) m' σ' H') ∧ ∀ x H',J.yld i H x H' → g x σ H' fun σ2 H2 => tb { D with nx := N,ct := N,bk := D.nx } σ2 H2)
def pinsAt (fp : List Addr) (h : Heap) : List (Addr × Obj) := fp.filterMap fun b => (h.get? b).map fun o => (b,o)
theorem mem_pinsAt {fp : List Addr} {h : Heap} {b : Addr} {o : Obj} (hb : b ∈ fp) (e : h.get? b = some o) : (b,o) ∈ pinsAt fp h := List.mem_filterMap.mpr ⟨b,hb,by rw [e]; rfl⟩
theorem of_pinsAt {fp : List Addr} {h : Heap} {p : Addr × Obj} (hp : p ∈ pinsAt fp h) : p.1 ∈ fp ∧ h.get? p.1 = some p.2 := by
  obtain ⟨b,hb,e⟩ := List.mem_filterMap.mp hp
  cases q : h.get? b with
  | none => rw [q] at e; cases e
  | some o =>
    rw [q] at e
    have e' : (b,o) = p := Option.some.inj e
    subst e'
    exact ⟨hb,q⟩
theorem Inv.pinned {pins : List (Addr × Obj)} {σ : St} {H : Hp} {s : Shared} {fp : List Addr} (I : Inv X pins σ H s) (hf : ∀ b ∈ fp,FpOk X pins H b) (ho : ∀ b ∈ fp,∃ o,s.heap.get? b = some o ∧ ∀ v,o.data ≠ .cell v) : Inv X (pins ++ pinsAt fp s.heap) σ H s :=
  I.pins_of fun p hp => (List.mem_append.mp hp).elim (fun z => I.pin p (List.mem_append_right _ z)) fun z => by
    obtain ⟨hb,e⟩ := of_pinsAt z
    obtain ⟨f0,f1,f2,_⟩ := hf p.1 hb
    obtain ⟨o,e',d⟩ := ho p.1 hb
    rw [e] at e'; cases e'
    exact ⟨e,f0,f1,f2,d⟩
theorem Inv.unpinned {pins pl : List (Addr × Obj)} {σ : St} {H : Hp} {s : Shared} (I : Inv X (pins ++ pl) σ H s) : Inv X pins σ H s := I.pins_of fun p hp => I.pin p (List.mem_append_right _ (List.mem_append_left _ hp))
theorem ps_for {iter : Expr} {body : List Stmt} {wi : TI} {g : TG} {tb : TS} {pos : Pos} (hp : PassesOwn (model X.prog X.w) X.A X.env X.xe) (hc : X.calm = true) (hi : PI X tg iter wi) (hg : PG X tg g) (hb : PSs X body tb)
    (hs : ∀ x,foldedSetIterable iter X.env x = pure x := by intro _; rfl) : PS X (.For tg iter body [] pos) (tFor wi g tb) := by
  intro pins s σ H D I h
  refine wpAny_For (thn (hi pins s σ H _ I h) fun v s1 h1 => thn h1 fun itv s2 h2 => ?_) hs
  obtain ⟨it,fp,tn,J,H2,e,I2,T,st2,f2,W,⟨m0,w0⟩,turn⟩ := h2
  subst e
  have stat : ∀ {H' : Hp},(∀ b ∈ fp,H' b = none) → ∀ b ∈ fp,FpOk X pins H' b := fun hn b hb => ⟨hn b hb,(f2 b hb).2⟩
  refine codeAny_forLoop_any (fun n s' => ∃ i σ' H',Inv X pins σ' H' s' ∧ tn i s'.heap ∧ (∀ b ∈ fp,H' b = none) ∧ W i n σ' H') ?_ m0 ⟨0,σ,H2,I2,st2,fun b hb => (f2 b hb).1,w0⟩
  rintro n s3 ⟨i,σ3,H3,I3,st3,fr3,w3⟩
  rcases turn i n σ3 H3 w3 with ⟨stop,qn⟩ | ⟨go,N,hN,step⟩
  · refine wpAny_passesOwn hp (thn (T.done X rfl rfl rfl hc i pins s3 σ3 H3 X.xe I3 (stat fr3) st3 stop) fun r s4 ⟨hr,I4⟩ => ?_)
    subst hr
    exact wpAny_execs_nil ⟨σ3,H3,I4,qn⟩
  · refine wpAny_passesOwn hp (thn (T.item X rfl rfl rfl hc i pins s3 σ3 H3 X.xe I3 (stat fr3) st3 go) fun r s4 ⟨u,hr,h4⟩ => ?_)
    subst hr
    refine wpAny_passesOwn hp (thn h4 fun _ s5 ⟨x,H5,I5,r5,y5,st5,fr5⟩ => ?_)
    have I5' := I5.pinned (stat fr5) (T.obj _ _ st5)
    refine wpAny_passesOwn hp (thn (hg _ s5 σ3 H5 x u _ I5' r5 (step x H5 y5)) fun _ s6 ⟨σ6,H6,I6,q6⟩ => ?_)
    refine wpAny_passesOwn hp (thn (hb _ s6 σ6 H6 _ I6 q6) fun f s7 q7 => ?_)
    have again : ∀ {σ7 : St} {H7 : Hp},Inv X (pins ++ pinsAt fp s5.heap) σ7 H7 s7 → N σ7 H7 → ∃ m,m < n ∧ ∃ i σ' H',Inv X pins σ' H' s7 ∧ tn i s7.heap ∧ (∀ b ∈ fp,H' b = none) ∧ W i m σ' H' := fun {σ7 H7} I7 n7 => by
      obtain ⟨m',hm,w7⟩ := hN σ7 H7 n7
      refine ⟨m',hm,i + 1,σ7,H7,I7.unpinned,T.keep _ _ _ st5 fun b hb o e => (I7.pin (b,o) (List.mem_append_right _ (List.mem_append_right _ (mem_pinsAt hb e)))).1,fun b hb => ?_,w7⟩
      obtain ⟨o,e,d⟩ := T.obj _ _ st5 b hb
      exact (I7.pin (b,o) (List.mem_append_right _ (List.mem_append_right _ (mem_pinsAt hb e)))).2.1
    cases f with
    | next => obtain ⟨σ7,H7,I7,n7⟩ := q7; exact again I7 n7
    | cont => obtain ⟨σ7,H7,I7,n7⟩ := q7; exact again I7 n7
    | brk => obtain ⟨σ7,H7,I7,q7⟩ := q7; exact ⟨σ7,H7,I7.unpinned,q7⟩
    | ret v => obtain ⟨x7,σ7,H7,I7,r7,q7⟩ := q7; exact ⟨x7,σ7,H7,I7.unpinned,r7,q7⟩
end
theorem for_list {K : PySem.W.Frag} {a : Addr} {xs : List V} {g : TG} {tb : TS} {D : Ends} {σ : St} {H : Hp} (Pv : Nat → St → Hp → Prop) (h0 : Pv 0 σ H) (hl : ∀ i σ H,i ≤ xs.length → Pv i σ H → SqL K H a xs)
    (hs : ∀ i x σ H,xs[i]? = some x → Pv i σ H → g x σ H fun σ2 H2 => tb { D with nx := Pv (i + 1),ct := Pv (i + 1),bk := D.nx } σ2 H2) (hd : ∀ σ H,Pv xs.length σ H → D.nx σ H) :
    ∃ W : Nat → Nat → St → Hp → Prop,(∃ m,W 0 m σ H) ∧ ∀ i m σ H,W i m σ H →
      ((Itl K a).stop i H ∧ D.nx σ H) ∨ ((Itl K a).go i H ∧ ∃ N : St → Hp → Prop,(∀ σ' H',N σ' H' → ∃ m',m' < m ∧ W (i + 1) m' σ' H') ∧ ∀ x H',(Itl K a).yld i H x H' → g x σ H' fun σ2 H2 => tb { D with nx := N,ct := N,bk := D.nx } σ2 H2) := by
  refine ⟨fun i m σ H => m = xs.length - i ∧ i ≤ xs.length ∧ Pv i σ H,⟨xs.length,by simp,Nat.zero_le _,h0⟩,?_⟩
  rintro i m σ H ⟨rfl,hi,p⟩
  have q := hl i σ H hi p
  by_cases hlt : i < xs.length
  · refine .inr ⟨⟨xs,xs[i],q,by simp [hlt]⟩,Pv (i + 1),fun σ' H' p' => ⟨xs.length - (i + 1),by omega,rfl,hlt,p'⟩,fun x H' y => ?_⟩
    obtain ⟨e,y⟩ := y
    subst e
    exact hs i x σ _ (y xs q) p
  · have e : i = xs.length := by omega
    subst e
    exact .inl ⟨⟨xs,q,Nat.le_refl _⟩,hd σ H p⟩
theorem for_range {lo : Int} {n : Nat} {g : TG} {tb : TS} {D : Ends} {σ : St} {H : Hp} (Pv : Nat → St → Hp → Prop) (h0 : Pv 0 σ H)
    (hs : ∀ i σ H,i < n → Pv i σ H → g (.int (lo + i)) σ H fun σ2 H2 => tb { D with nx := Pv (i + 1),ct := Pv (i + 1),bk := D.nx } σ2 H2) (hd : ∀ σ H,Pv n σ H → D.nx σ H) :
    ∃ W : Nat → Nat → St → Hp → Prop,(∃ m,W 0 m σ H) ∧ ∀ i m σ H,W i m σ H →
      ((Itr lo n).stop i H ∧ D.nx σ H) ∨ ((Itr lo n).go i H ∧ ∃ N : St → Hp → Prop,(∀ σ' H',N σ' H' → ∃ m',m' < m ∧ W (i + 1) m' σ' H') ∧ ∀ x H',(Itr lo n).yld i H x H' → g x σ H' fun σ2 H2 => tb { D with nx := N,ct := N,bk := D.nx } σ2 H2) := by
  refine ⟨fun i m σ H => m = n - i ∧ i ≤ n ∧ Pv i σ H,⟨n,by simp,Nat.zero_le _,h0⟩,?_⟩
  rintro i m σ H ⟨rfl,hi,p⟩
  by_cases hlt : i < n
  · refine .inr ⟨hlt,Pv (i + 1),fun σ' H' p' => ⟨n - (i + 1),by omega,rfl,hlt,p'⟩,fun x H' y => ?_⟩
    obtain ⟨e,y⟩ := y
    subst e y
    exact hs i σ _ hlt p
  · have e : i = n := by omega
    subst e
    exact .inl ⟨Nat.le_refl _,hd σ H p⟩
theorem while_by {c : TT} {tb : TS} {D : Ends} {σ : St} {H : Hp} (Pv : St → Hp → Prop) (μ : St → Hp → Nat) (h0 : Pv σ H)
    (hs : ∀ σ H,Pv σ H → c σ H fun b H1 => if b = true then tb { D with nx := fun σ' H' => Pv σ' H' ∧ μ σ' H' < μ σ H,ct := fun σ' H' => Pv σ' H' ∧ μ σ' H' < μ σ H,bk := D.nx } σ H1 else D.nx σ H1)
    (mono : ∀ σ H Q Q',(∀ b H1,Q b H1 → Q' b H1) → c σ H Q → c σ H Q') : tWhile c tb D σ H := by
  refine ⟨fun m σ H => m = μ σ H ∧ Pv σ H,⟨_,rfl,h0⟩,?_⟩
  rintro m σ H ⟨rfl,p⟩
  refine mono σ H _ _ (fun b H1 q => ?_) (hs σ H p)
  cases b with
  | true => exact ⟨_,fun σ' H' ⟨p',l⟩ => ⟨_,l,rfl,p'⟩,q⟩
  | false => exact q
end L2
namespace L2
open PySem PySem.Spec PyProof.Rows
abbrev R2 := V → V → Hp → VK → Prop
def OpR (X : Cx) (f : Value → Value → Sem Value) (r : R2) : Prop :=
  ∀ (pins : List (Addr × Obj)) (s : Shared) (σ : St) (H : Hp) (x y : V) (v u : Value) (Q : VK),Inv X pins σ H s → RelV x v → RelV y u → r x y H Q →
    wpAny (model X.prog X.w) X.A (f v u) (EP X pins σ Q) X.xe s
def UnR (X : Cx) (f : Value → Sem Value) (r : V → Hp → VK → Prop) : Prop :=
  ∀ (pins : List (Addr × Obj)) (s : Shared) (σ : St) (H : Hp) (x : V) (v : Value) (Q : VK),Inv X pins σ H s → RelV x v → r x H Q →
    wpAny (model X.prog X.w) X.A (f v) (EP X pins σ Q) X.xe s
def CallR (X : Cx) (f : Value) (r : List V → Hp → VK → Prop) : Prop :=
  ∀ (pins : List (Addr × Obj)) (s : Shared) (σ : St) (H : Hp) (xs : List V) (us : List Value) (Q : VK),Inv X pins σ H s → Vals xs us → r xs H Q →
    wpAny (model X.prog X.w) X.A (call f us) (EP X pins σ Q) X.xe s
def tOp (r : R2) (ta tb : TE) : TE := fun σ H Q => ta σ H fun x H1 => tb σ H1 fun y H2 => r x y H2 Q
def tUn (r : V → Hp → VK → Prop) (ta : TE) : TE := fun σ H Q => ta σ H fun x H1 => r x H1 Q
def rI (C : Int → Int → Prop) (g : Int → Int → V) : R2 := fun x y H Q => ∃ i j,x = .int i ∧ y = .int j ∧ C i j ∧ Q (g i j) H
def rI0 (g : Int → Int → V) : R2 := fun x y H Q => ∃ i j,x = .int i ∧ y = .int j ∧ Q (g i j) H
def rU (g : Int → V) : V → Hp → VK → Prop := fun x H Q => ∃ i,x = .int i ∧ Q (g i) H
section
variable {X : Cx} {a b c : Expr} {ta tb tc : TE} {pos : Pos}
theorem binT (ha : PE X a ta) (hb : PE X b tb) {pins : List (Addr × Obj)} {s : Shared} {σ : St} {H : Hp} {R : V → V → Hp → Prop} (I : Inv X pins σ H s)
    (h : ta σ H fun x H1 => tb σ H1 fun y H2 => R x y H2) {Q : Value → Shared → Prop} {f : Value → Value → Sem Value}
    (hf : ∀ v u s2 x y H2,Inv X pins σ H2 s2 → RelV x v → RelV y u → R x y H2 → wpAny (model X.prog X.w) X.A (f v u) Q X.xe s2) :
    wpAny (model X.prog X.w) X.A (eval a X.env) (fun v s₁ => wpAny (model X.prog X.w) X.A (eval b X.env) (fun u s₂ => wpAny (model X.prog X.w) X.A (f v u) Q X.xe s₂) X.xe s₁) X.xe s := by
  refine thn (ha pins s σ H _ I h) fun v s1 ⟨x,H1,I1,r1,q1⟩ => ?_
  refine thn (hb pins s1 σ H1 _ I1 q1) fun u s2 ⟨y,H2,I2,r2,q2⟩ => ?_
  exact hf v u s2 x y H2 I2 r1 r2 q2
theorem pe_op {op : Operator} {r : R2} (ho : OpR X (binaryOp op) r) (ha : PE X a ta) (hb : PE X b tb) : PE X (.BinOp a op b pos) (tOp r ta tb) := by
  intro pins s σ H Q I h
  exact wpAny_BinOp (binT ha hb I h fun v u s2 x y H2 I2 rx ry q => ho pins s2 σ H2 x y v u Q I2 rx ry q)
theorem pe_un {op : UnaryOp} {r : V → Hp → VK → Prop} (ho : UnR X (unaryOp op) r) (ha : PE X a ta) : PE X (.UnaryOp op a pos) (tUn r ta) := by
  intro pins s σ H Q I h
  exact UnaryOp_ (thn (ha pins s σ H _ I h) fun v s1 ⟨x,H1,I1,r1,q1⟩ => ho pins s1 σ H1 x v Q I1 r1 q1)
theorem opI {f : Value → Value → Sem Value} {C : Int → Int → Prop} {g : Int → Int → Int}
    (rule : ∀ (i j : Int) (t u : Tok) (s : Shared) (Q : Value → Shared → Prop) (E : Value → Shared → Prop),C i j → Q (.int (g i j) s.toks) { s with toks := s.toks + 1 } → wpAny (model X.prog X.w) X.A (f (.int i t) (.int j u)) Q E s) :
    OpR X f (rI C fun i j => .int (g i j)) := by
  intro pins s σ H x y v u Q I rx ry h
  obtain ⟨i,j,rfl,rfl,hc,q⟩ := h
  obtain ⟨t,rfl⟩ := rx
  obtain ⟨t',rfl⟩ := ry
  exact rule i j t t' s _ _ hc ⟨.int (g i j),H,I.tok _,⟨_,rfl⟩,q⟩
theorem opI0 {f : Value → Value → Sem Value} {g : Int → Int → Int}
    (rule : ∀ (i j : Int) (t u : Tok) (s : Shared) (Q : Value → Shared → Prop) (E : Value → Shared → Prop),Q (.int (g i j) s.toks) { s with toks := s.toks + 1 } → wpAny (model X.prog X.w) X.A (f (.int i t) (.int j u)) Q E s) :
    OpR X f (rI0 fun i j => .int (g i j)) := by
  intro pins s σ H x y v u Q I rx ry h
  obtain ⟨i,j,rfl,rfl,q⟩ := h
  obtain ⟨t,rfl⟩ := rx
  obtain ⟨t',rfl⟩ := ry
  exact rule i j t t' s _ _ ⟨.int (g i j),H,I.tok _,⟨_,rfl⟩,q⟩
theorem opB0 {f : Value → Value → Sem Value} {g : Int → Int → Bool}
    (rule : ∀ (i j : Int) (t u : Tok) (s : Shared) (Q : Value → Shared → Prop) (E : Value → Shared → Prop),Q (.bool (g i j)) s → wpAny (model X.prog X.w) X.A (f (.int i t) (.int j u)) Q E s) :
    OpR X f (rI0 fun i j => .bl (g i j)) := by
  intro pins s σ H x y v u Q I rx ry h
  obtain ⟨i,j,rfl,rfl,q⟩ := h
  obtain ⟨t,rfl⟩ := rx
  obtain ⟨t',rfl⟩ := ry
  exact rule i j t t' s _ _ ⟨.bl (g i j),H,I,rfl,q⟩
def CPow (i j : Int) : Prop := 0 ≤ j ∧ j ≤ 1000000 ∧ i.natAbs < 2 ^ 64
def CMul (i j : Int) : Prop := (-(2 ^ 64) < i ∧ i < 2 ^ 64) ∨ (-(2 ^ 64) < j ∧ j < 2 ^ 64)
theorem CMul.ok {i j : Int} (h : CMul i j) : IntMulOk i j := by
  rcases h with ⟨h1,h2⟩ | ⟨h1,h2⟩
  · exact .of_left (intBits_le_64 h1 h2)
  · exact .of_right (intBits_le_64 h1 h2)
theorem op_add : OpR X (binaryOp .Add) (rI0 fun i j => .int (i + j)) := opI0 fun _ _ _ _ _ _ _ q => add_int q
theorem op_sub : OpR X (binaryOp .Sub) (rI0 fun i j => .int (i - j)) := opI0 fun _ _ _ _ _ _ _ q => sub_int q
theorem op_mod : OpR X (binaryOp .Mod) (rI (fun _ j => 0 < j) fun i j => .int (i % j)) := opI fun i j _ _ _ _ _ hc q => by
  have h1 : (0 : Int) < j := hc
  exact mod_int' (by omega) (by rw [Int.fmod_eq_emod_of_nonneg i (by omega)]; exact q)
theorem op_pow : OpR X (binaryOp .Pow) (rI CPow fun i j => .int (i ^ j.toNat)) := opI fun _ _ _ _ _ _ _ hc q => pow_int_small hc.1 hc.2.1 hc.2.2 q
theorem unI {f : Value → Sem Value} {g : Int → Int}
    (rule : ∀ (i : Int) (t : Tok) (s : Shared) (Q : Value → Shared → Prop) (E : Value → Shared → Prop),Q (.int (g i) s.toks) { s with toks := s.toks + 1 } → wpAny (model X.prog X.w) X.A (f (.int i t)) Q E s) :
    UnR X f (rU fun i => .int (g i)) := by
  intro pins s σ H x v Q I rx h
  obtain ⟨i,rfl,q⟩ := h
  obtain ⟨t,rfl⟩ := rx
  exact rule i t s _ _ ⟨.int (g i),H,I.tok _,⟨_,rfl⟩,q⟩
theorem un_neg : UnR X (unaryOp .USub) (rU fun i => .int (-i)) := unI fun _ _ _ _ _ q => neg_int q
end
def scal : V → V → Bool
  | .non,.non => true | .non,.int _ => true | .int _,.non => true | .non,.bl _ => true | .bl _,.non => true | .non,.str _ => true | .str _,.non => true
  | .int _,.int _ => true | .bl _,.bl _ => true | .str _,.str _ => true | .byt _,.byt _ => true
  | .int _,.str _ => true | .str _,.int _ => true | .bl _,.str _ => true | .str _,.bl _ => true
  | _,_ => false
def rEq : R2 := fun x y H Q => scal x y = true ∧ Q (.bl (decide (x = y))) H
def rNe : R2 := fun x y H Q => scal x y = true ∧ Q (.bl (!decide (x = y))) H
theorem dec_int {i j : Int} : decide (V.int i = V.int j) = (i == j) := by
  rw [Bool.eq_iff_iff]
  simp
theorem dec_bl {i j : Bool} : decide (V.bl i = V.bl j) = (i == j) := by
  rw [Bool.eq_iff_iff]
  simp
theorem dec_str {i j : Str} : decide (V.str i = V.str j) = (i == j) := by
  rw [Bool.eq_iff_iff]
  simp
theorem dec_byt {i j : Array UInt8} : decide (V.byt i = V.byt j) = (i.toList == j.toList) := by
  rw [Bool.eq_iff_iff]
  cases i
  cases j
  simp
section
variable {X : Cx} {a b c : Expr} {ta tb tc : TE} {pos : Pos}
theorem fin_bl {pins : List (Addr × Obj)} {σ : St} {H : Hp} {s : Shared} {Q : VK} {k k' : Bool} (I : Inv X pins σ H s) (q : Q (.bl k) H) (e : k = k') : EP X pins σ Q (.bool k') s := by
  subst e
  exact ⟨.bl k,H,I,rfl,q⟩
theorem op_eq : OpR X (compareOp .Eq) rEq := by
  intro pins s σ H x y v u Q I rx ry h
  obtain ⟨hs,q⟩ := h
  cases x with
  | non =>
    cases rx
    cases y with
    | non => cases ry; exact PySem.EqNone.eq_none_none (fin_bl I q (by simp))
    | bl j => cases ry; exact PySem.EqNone.eq_none_bool (fin_bl I q (by simp))
    | int j => obtain ⟨t',rfl⟩ := ry; exact PySem.EqNone.eq_none_int (fin_bl I q (by simp))
    | str j => obtain ⟨t',rfl⟩ := ry; exact PySem.EqNone.eq_none_str (fin_bl I q (by simp))
    | _ => exact absurd (show false = true from hs) Bool.false_ne_true
  | bl i =>
    cases rx
    cases y with
    | non => cases ry; exact PySem.EqNone.eq_bool_none (fin_bl I q (by simp))
    | bl j => cases ry; exact eq_bool (fin_bl I q dec_bl)
    | str j => obtain ⟨t',rfl⟩ := ry; exact PySem.EqMixed.eq_bool_str (fin_bl I q (by simp))
    | _ => exact absurd (show false = true from hs) Bool.false_ne_true
  | int i =>
    obtain ⟨t,rfl⟩ := rx
    cases y with
    | non => cases ry; exact PySem.EqNone.eq_int_none (fin_bl I q (by simp))
    | int j => obtain ⟨t',rfl⟩ := ry; exact eq_int (fin_bl I q dec_int)
    | str j => obtain ⟨t',rfl⟩ := ry; exact PySem.EqMixed.eq_int_str (fin_bl I q (by simp))
    | _ => exact absurd (show false = true from hs) Bool.false_ne_true
  | str i =>
    obtain ⟨t,rfl⟩ := rx
    cases y with
    | non => cases ry; exact PySem.EqNone.eq_str_none (fin_bl I q (by simp))
    | bl j => cases ry; exact PySem.EqMixed.eq_str_bool (fin_bl I q (by simp))
    | int j => obtain ⟨t',rfl⟩ := ry; exact PySem.EqMixed.eq_str_int (fin_bl I q (by simp))
    | str j => obtain ⟨t',rfl⟩ := ry; exact eq_str (fin_bl I q dec_str)
    | _ => exact absurd (show false = true from hs) Bool.false_ne_true
  | byt i =>
    obtain ⟨t,rfl⟩ := rx
    cases y with
    | byt j => obtain ⟨t',rfl⟩ := ry; exact PySem.W.eq_bytes (fin_bl I q dec_byt)
    | _ => exact absurd (show false = true from hs) Bool.false_ne_true
  | _ => cases y <;> exact absurd (show false = true from hs) Bool.false_ne_true
theorem op_ne : OpR X (compareOp .NotEq) rNe := by
  intro pins s σ H x y v u Q I rx ry h
  obtain ⟨hs,q⟩ := h
  cases x with
  | non =>
    cases rx
    cases y with
    | non => cases ry; exact PySem.EqNone.ne_none_none (fin_bl I q (by simp))
    | bl j => cases ry; exact PySem.EqNone.ne_none_bool (fin_bl I q (by simp))
    | int j => obtain ⟨t',rfl⟩ := ry; exact PySem.EqNone.ne_none_int (fin_bl I q (by simp))
    | str j => obtain ⟨t',rfl⟩ := ry; exact PySem.EqNone.ne_none_str (fin_bl I q (by simp))
    | _ => exact absurd (show false = true from hs) Bool.false_ne_true
  | bl i =>
    cases rx
    cases y with
    | non => cases ry; exact PySem.EqNone.ne_bool_none (fin_bl I q (by simp))
    | bl j => cases ry; exact ne_bool (fin_bl I q (congrArg not dec_bl))
    | str j => obtain ⟨t',rfl⟩ := ry; exact PySem.EqMixed.ne_bool_str (fin_bl I q (by simp))
    | _ => exact absurd (show false = true from hs) Bool.false_ne_true
  | int i =>
    obtain ⟨t,rfl⟩ := rx
    cases y with
    | non => cases ry; exact PySem.EqNone.ne_int_none (fin_bl I q (by simp))
    | int j => obtain ⟨t',rfl⟩ := ry; exact ne_int (fin_bl I q (congrArg not dec_int))
    | str j => obtain ⟨t',rfl⟩ := ry; exact PySem.EqMixed.ne_int_str (fin_bl I q (by simp))
    | _ => exact absurd (show false = true from hs) Bool.false_ne_true
  | str i =>
    obtain ⟨t,rfl⟩ := rx
    cases y with
    | non => cases ry; exact PySem.EqNone.ne_str_none (fin_bl I q (by simp))
    | bl j => cases ry; exact PySem.EqMixed.ne_str_bool (fin_bl I q (by simp))
    | int j => obtain ⟨t',rfl⟩ := ry; exact PySem.EqMixed.ne_str_int (fin_bl I q (by simp))
    | str j => obtain ⟨t',rfl⟩ := ry; exact ne_str (fin_bl I q (congrArg not dec_str))
    | _ => exact absurd (show false = true from hs) Bool.false_ne_true
  | byt i =>
    obtain ⟨t,rfl⟩ := rx
    cases y with
    | byt j => obtain ⟨t',rfl⟩ := ry; exact PySem.W.ne_bytes (fin_bl I q (congrArg not dec_byt))
    | _ => exact absurd (show false = true from hs) Bool.false_ne_true
  | _ => cases y <;> exact absurd (show false = true from hs) Bool.false_ne_true
theorem op_lt : OpR X (compareOp .Lt) (rI0 fun i j => .bl (decide (i < j))) := opB0 fun _ _ _ _ _ _ _ q => lt_int q
theorem op_le : OpR X (compareOp .LtE) (rI0 fun i j => .bl (decide (i ≤ j))) := opB0 fun _ _ _ _ _ _ _ q => le_int q
theorem op_gt : OpR X (compareOp .Gt) (rI0 fun i j => .bl (decide (j < i))) := opB0 fun _ _ _ _ _ _ _ q => gt_int q
theorem op_ge : OpR X (compareOp .GtE) (rI0 fun i j => .bl (decide (j ≤ i))) := opB0 fun _ _ _ _ _ _ _ q => ge_int q
theorem op_isN : OpR X (compareOp .Is) (fun x y H Q => y = .non ∧ Q (.bl (decide (x = .non))) H) := by
  intro pins s σ H x y v u Q I rx ry h
  obtain ⟨rfl,q⟩ := h
  cases ry
  refine is_none_gen (fin_bl I q ?_)
  cases x <;> first
    | (cases rx; rfl)
    | (obtain ⟨t,rfl⟩ := rx; rfl)
theorem op_notN : OpR X (compareOp .IsNot) (fun x y H Q => y = .non ∧ Q (.bl (!decide (x = .non))) H) := by
  intro pins s σ H x y v u Q I rx ry h
  obtain ⟨rfl,q⟩ := h
  cases ry
  refine isnot_none_gen (fin_bl I q ?_)
  cases x <;> first
    | (cases rx; rfl)
    | (obtain ⟨t,rfl⟩ := rx; rfl)
theorem nomark (b : Expr) {op : CmpOp} (h : op ≠ .In := by decide) (h2 : op ≠ .NotIn := by decide) : behindInMarks op b = false := by
  have e1 : (op == CmpOp.In) = false := by cases op <;> first | rfl | exact absurd rfl h
  have e2 : (op == CmpOp.NotIn) = false := by cases op <;> first | rfl | exact absurd rfl h2
  cases b <;> simp [behindInMarks,e1,e2]
theorem pe_cmpR {op : CmpOp} {r : R2} (ho : OpR X (compareOp op) r) (ha : PE X a ta) (hb : PE X b tb) (hm : behindInMarks op b = false) : PE X (.Compare a [op] [b] pos) (tOp r ta tb) := by
  intro pins s σ H Q I h
  exact wpAny_Compare1 (binT ha hb I h fun v u s2 x y H2 I2 rx ry q => ho pins s2 σ H2 x y v u Q I2 rx ry q) hm
def tTest (t : TE) : TT := fun σ H Q => t σ H fun x H' => ∃ k,x = .bl k ∧ Q k H'
theorem pt_cmpR {op : CmpOp} {r : R2} (ho : OpR X (compareOp op) r) (ha : PE X a ta) (hb : PE X b tb) (hm : behindInMarks op b = false) : PT X (.Compare a [op] [b] pos) (tTest (tOp r ta tb)) := by
  intro pins s σ H Q I h
  refine wpAny_isTrue_Compare1 (thn (ha pins s σ H _ I h) fun v s1 ⟨x,H1,I1,r1,q1⟩ => thn (hb pins s1 σ H1 _ I1 q1) fun u s2 ⟨y,H2,I2,r2,q2⟩ =>
    thn (ho pins s2 σ H2 x y v u _ I2 r1 r2 q2) fun c s3 ⟨z,H3,I3,r3,k,e,q3⟩ => ?_) hm
  subst e
  cases r3
  exact wpAny_truthy_bool ⟨H3,I3,q3⟩
def tChain (r r' : R2) (ta tb tc : TE) : TE := fun σ H Q => ta σ H fun x H1 => tb σ H1 fun y H2 => r x y H2 fun z H3 => ∃ k,z = .bl k ∧
  (if k = true then tc σ H3 fun w' H4 => r' y w' H4 Q else Q (.bl false) H3)
theorem pe_chain {op op' : CmpOp} {r r' : R2} (ho : OpR X (compareOp op) r) (ho' : OpR X (compareOp op') r') (ha : PE X a ta) (hb : PE X b tb) (hc : PE X c tc)
    (hm : lastMarks [op,op'] [b,c] = false := by with_unfolding_all rfl) : PE X (.Compare a [op,op'] [b,c] pos) (tChain r r' ta tb tc) := by
  intro pins s σ H Q I h
  refine Compare_chain (thn (ha pins s σ H _ I h) fun v s1 ⟨x,H1,I1,r1,q1⟩ => chain_link (thn (hb pins s1 σ H1 _ I1 q1) fun u s2 ⟨y,H2,I2,r2,q2⟩ =>
    thn (ho pins s2 σ H2 x y v u _ I2 r1 r2 q2) fun d s3 ⟨z,H3,I3,r3,k,e,q3⟩ => ?_)) hm
  subst e
  cases r3
  refine wpAny_truthy_bool ?_
  cases k with
  | false => exact ite_ff ⟨.bl false,H3,I3,rfl,q3⟩
  | true => exact ite_tt (chain_last (thn (hc pins s3 σ H3 _ I3 q3) fun w' s4 ⟨z',H4,I4,r4,q4⟩ => ho' pins s4 σ H4 y z' u w' Q I4 r2 r4 q4))
theorem line63 : (sizeLine : Nat) < 2 ^ 63 := by rw [sizeLine_eq]; decide
theorem vals1 {x : V} {us : List Value} (r : Vals [x] us) : ∃ u,us = [u] ∧ RelV x u := by
  cases r with
  | cons r1 r2 => cases r2; exact ⟨_,rfl,r1⟩
theorem vals2 {x y : V} {us : List Value} (r : Vals [x,y] us) : ∃ u w',us = [u,w'] ∧ RelV x u ∧ RelV y w' := by
  cases r with
  | cons r1 r2 =>
    cases r2 with
    | cons r3 r4 => cases r4; exact ⟨_,_,rfl,r1,r3⟩
theorem call_abs : CallR X (.builtin "abs") (fun xs H Q => ∃ i,xs = [.int i] ∧ Q (.int (if i < 0 then -i else i)) H) := by
  intro pins s σ H xs us Q I r h
  obtain ⟨i,rfl,q⟩ := h
  obtain ⟨u,rfl,t,rfl⟩ := vals1 r
  exact call_abs_int fun u tk => ⟨.int (if i < 0 then -i else i),H,I.tok _,⟨_,rfl⟩,q⟩
theorem call_max2 (hc : X.calm = true) : CallR X (.builtin "max") (fun xs H Q => ∃ i j,xs = [.int i,.int j] ∧ Q (.int (if j > i then j else i)) H) := by
  intro pins s σ H xs us Q I r h
  obtain ⟨i,j,rfl,q⟩ := h
  obtain ⟨u,w',rfl,⟨t,rfl⟩,⟨t',rfl⟩⟩ := vals2 r
  refine max_two_ints (I.ok.hd hc) fun h' tk k => ⟨_,H,I.kept k,?_,q⟩
  by_cases hj : j > i
  · rw [if_pos hj,if_pos hj]; exact ⟨_,rfl⟩
  · rw [if_neg hj,if_neg hj]; exact ⟨_,rfl⟩
theorem call_min2 (hc : X.calm = true) : CallR X (.builtin "min") (fun xs H Q => ∃ i j,xs = [.int i,.int j] ∧ Q (.int (if j < i then j else i)) H) := by
  intro pins s σ H xs us Q I r h
  obtain ⟨i,j,rfl,q⟩ := h
  obtain ⟨u,w',rfl,⟨t,rfl⟩,⟨t',rfl⟩⟩ := vals2 r
  refine min_two_ints (I.ok.hd hc) fun h' tk k => ⟨_,H,I.kept k,?_,q⟩
  by_cases hj : j < i
  · rw [if_pos hj,if_pos hj]; exact ⟨_,rfl⟩
  · rw [if_neg hj,if_neg hj]; exact ⟨_,rfl⟩
end
end L2
namespace L2
open PySem PySem.Spec PyProof.Rows
structure ObjM (h : Heap) (x dx C : Addr) (mA : Str → Option Value) : Prop where
  obj : h.get? x = some (PySem.W.instObj C dx)
  ns : h.Ns1 dx mA
  ne : dx ≠ x
theorem lookIn_ns {h : Heap} {dx : Addr} {mA : Str → Option Value} (n : h.Ns1 dx mA) : ∃ od,h.get? dx = some od ∧ ∀ name,PySem.W.lookIn name od = some (mA name) := by
  obtain ⟨o,es,ep,ho,hd,hk,_,hm⟩ := n
  refine ⟨o,ho,fun name => ?_⟩
  have e := hm name
  unfold nsFind findBy at e
  rw [← Array.find?_toList] at e
  unfold PySem.W.lookIn
  rw [hd]
  dsimp only
  split
  · rename_i y q
    rw [q] at e
    exact congrArg some e
  · rename_i q
    rw [q] at e
    have a : es.toList.any (·.refKey) = false := by
      rw [List.any_eq_false]
      intro y hy
      obtain ⟨z,t,hkey⟩ := hk y (Array.mem_toList_iff.mp hy)
      simp [DictEntry.refKey,hkey]
    have a' : ¬ es.toList.any (·.refKey) = true := by rw [a]; exact Bool.false_ne_true
    rw [if_neg a']
    exact congrArg some e
theorem ObjM.look {h : Heap} {x dx C : Addr} {mA : Str → Option Value} (I : ObjM h x dx C mA) : ∃ od,PySem.W.InstAt h x (PySem.W.instObj C dx) C (some od) ∧ ∀ name,PySem.W.lookIn name od = some (mA name) :=
  let ⟨od,ho,hl⟩ := lookIn_ns I.ns
  ⟨od,⟨I.obj,rfl,rfl,ho⟩,hl⟩
section
variable {prog : Program} {w : World} {A : Around} {E : Value → Shared → Prop} {s : Shared} {K : PySem.W.Frag} {x dx C f : Addr} {mA : Str → Option Value} {name : Str} {v : Value}
end
theorem RelO.some_of {v : V} {o : Option Value} (r : RelO (some v) o) : ∃ u,o = some u ∧ RelV v u := by
  cases o with
  | none => exact (show False from r).elim
  | some u => exact ⟨u,rfl,r⟩
section
variable {P : Program} {w : World} {H H' : Hp} {h h' : Heap} {a C dx : Addr} {fs fs' : List (Str × V)}
theorem ins_get (hok : HOk P w H h) (e : H a = some (.ins C dx fs)) : ∃ mA,ObjM h a dx C mA ∧ (∀ f,RelO (fs.lookup f) (mA f)) ∧ PySem.Within mA (fs.map (·.1)) ∧ fs.length ≤ 1000 ∧ H dx = some (.own a) := by
  obtain ⟨d,z,ne,ob,mA,n,r,q⟩ := (show ObjOk P w H h a (.ins C dx fs) from hok a _ e)
  exact ⟨mA,⟨ob,n,ne⟩,r,q,z,d⟩
end
structure Cls (K : PySem.W.Frag) (C : Addr) : Prop where
  pg : PySem.W.plainGet K C Str.empty = true
  hd : PySem.W.hasDictIn K C = true
  po : PySem.W.plainOver K C = true
  sa : PySem.W.findIn K (.ref C) "__setattr__" = some (some (.builtin "object.__setattr__"))
theorem Cls.get {K : PySem.W.Frag} {C : Addr} (c : Cls K C) (f : Str) : PySem.W.plainGet K C f = true := c.pg
section
variable {X : Cx} {pins : List (Addr × Obj)} {σ : St} {H : Hp} {s : Shared} {a C dx : Addr} {fs : List (Str × V)} {f : Str} {v : V} {A : Around} {E : Value → Shared → Prop}
end
section
variable {X : Cx} {o e value : Expr} {f : Str} {pos pos' tpos : Pos} {ta tv : TE}
end
section
variable {X : Cx} {pins : List (Addr × Obj)} {σ : St} {H : Hp} {s : Shared} {A : Around} {E : Value → Shared → Prop} {Q : Value → Shared → Prop} {c : Value} {b : Bool}
inductive TyOf (K : PySem.W.Frag) (H : Hp) : V → Value → Prop where
  | non : TyOf K H .non (.type "NoneType")
  | bl (x : Bool) : TyOf K H (.bl x) (.type "bool")
  | int (i : Int) : TyOf K H (.int i) (.type "int")
  | str (x : Str) : TyOf K H (.str x) (.type "str")
  | flt (x : UInt64) : TyOf K H (.flt x) (.type "float")
  | lst {a : Addr} {xs : List V} (e : H a = some (.lst xs)) : TyOf K H (.ref a) (.type "list")
  | frz {a : Addr} {o : Obj} {xs : List V} (e : H a = some (.frz o (.lst xs))) : TyOf K H (.ref a) (.type "list")
  | tup {a : Addr} {xs : List V} (e : H a = some (.tup xs)) : TyOf K H (.ref a) (.type "tuple")
  | dK {a : Addr} {kvs : List (Key × V)} (e : H a = some (.dK kvs)) : TyOf K H (.ref a) (.type "dict")
  | dT {a : Addr} {kvs : List (List Key × V)} (e : H a = some (.dT kvs)) : TyOf K H (.ref a) (.type "dict")
  | ins {a C dx : Addr} {fs : List (Str × V)} (e : H a = some (.ins C dx fs)) (cl : Cls K C) (ha : PySem.W.findIn K (.ref C) "__class__" = some (some (.builtin "object.__class__")))
      (hn : PySem.W.specialIn K (.builtin "object.__class__") "__get__" = some (some (.builtin "getset_descriptor.__get__"))) (htk : PySem.W.takesIn K (.builtin "object.__class__") = some true)
      (hm : PySem.W.mroIn K C (.type "object") = some true) : TyOf K H (.ref a) (.ref C)
theorem isinst_ok {x : V} {u t : Value} (I : Inv X pins σ H s) (rx : RelV x u) (ty : TyOf X.K H x t) (e : PySem.W.kitOne X.K t c = some b) (h : ∀ tk,Q (.bool b) { s with toks := tk }) :
    wpAny (model X.prog X.w) A (call (.builtin "isinstance") [u,c]) Q E s := by
  cases ty with
  | non => cases (show u = Value.none from rx); exact PySem.W.kia_one PySem.W.kitx_none I.kIn True.intro e (fun z => nomatch z) h
  | bl y => cases (show u = Value.bool y from rx); exact PySem.W.kia_one PySem.W.kitx_bool I.kIn True.intro e (fun z => nomatch z) h
  | int i => obtain ⟨t,q⟩ := (show ∃ t,u = Value.int i t from rx); cases q; exact PySem.W.kia_one PySem.W.kitx_int I.kIn True.intro e (fun z => nomatch z) h
  | str y => obtain ⟨t,q⟩ := (show ∃ t,u = Value.str y t from rx); cases q; exact PySem.W.kia_one PySem.W.kitx_str I.kIn True.intro e (fun z => nomatch z) h
  | flt y => obtain ⟨t,q⟩ := (show ∃ t,u = Value.float y t from rx); cases q; exact PySem.W.kia_one PySem.W.kitx_float I.kIn True.intro e (fun z => nomatch z) h
  | @lst a xs ea =>
    cases (show u = Value.ref a from rx)
    obtain ⟨_,_,n,_,h1⟩ := (show ObjOk X.prog X.w H s.heap a (.lst xs) from I.hok a _ ea)
    exact PySem.W.kia_one PySem.W.kitx_list I.kIn ⟨_,h1,rfl⟩ e (fun z => nomatch z) h
  | @frz a ob xs ea =>
    cases (show u = Value.ref a from rx)
    obtain ⟨_,_,_,n,_,h1⟩ := (show ObjOk X.prog X.w H s.heap a (.frz ob (.lst xs)) from I.hok a _ ea)
    exact PySem.W.kia_one PySem.W.kitx_list I.kIn ⟨_,h1,rfl⟩ e (fun z => nomatch z) h
  | @tup a xs ea =>
    cases (show u = Value.ref a from rx)
    obtain ⟨_,_,_,p⟩ := (show ObjOk X.prog X.w H s.heap a (.tup xs) from I.hok a _ ea)
    obtain ⟨o,h1,h2,_⟩ := p
    exact PySem.W.kia_one PySem.W.kitx_tuple I.kIn ⟨o,h1,h2⟩ e (fun z => nomatch z) h
  | @dK a kvs ea =>
    cases (show u = Value.ref a from rx)
    obtain ⟨_,_,vs,_,p⟩ := (show ObjOk X.prog X.w H s.heap a (.dK kvs) from I.hok a _ ea)
    obtain ⟨o,es,ep,h1,h2,_⟩ := p
    exact PySem.W.kia_one PySem.W.kitx_dict I.kIn ⟨o,h1,h2.1⟩ e (fun z => nomatch z) h
  | @dT a kvs ea =>
    cases (show u = Value.ref a from rx)
    obtain ⟨_,_,xs,_,o,es,ep,h1,h2,_⟩ := (show ObjOk X.prog X.w H s.heap a (.dT kvs) from I.hok a _ ea)
    exact PySem.W.kia_one PySem.W.kitx_dict I.kIn ⟨o,h1,h2.1⟩ e (fun z => nomatch z) h
  | @ins a C dx fs ea cl ha hn htk hm =>
    cases (show u = Value.ref a from rx)
    obtain ⟨mA,O,_⟩ := ins_get I.hok ea
    obtain ⟨od,J,_⟩ := O.look
    exact PySem.W.kia_one (PySem.W.kitx_own (cl.get _) cl.hd ha hn htk hm) I.kIn J e (fun z => nomatch z) h
end
end L2
namespace L2
open PySem PySem.Spec PyProof.Rows
structure Room (k : Nat) (A : Around) : Prop where
  hd : A.handled = none
  dp : A.depth + 3 * k + 5 < recursionLimit
  un : A.units + 16 * k + 200 < cLine
  gd : A.guards = some []
theorem Room.mono {j k : Nat} {A : Around} (r : Room k A) (h : j ≤ k) : Room j A := ⟨r.hd,by have := r.dp; omega,by have := r.un; omega,r.gd⟩
theorem Room.deeper {k : Nat} {A : Around} (r : Room (k + 1) A) (env : Env) : Room k (A.deeper env) :=
  ⟨r.hd,by have := r.dp; show A.depth + 1 + 3 * k + 5 < _; omega,by have := r.un; show A.units + 3 + 16 * k + 200 < _; omega,r.gd⟩
theorem Room.depth {k : Nat} {A : Around} (r : Room k A) : A.depth < recursionLimit := by have := r.dp; omega
theorem Room.units {k : Nat} {A : Around} (r : Room k A) : A.units + 64 < cLine := by have := r.un; omega
theorem Room.units0 {k : Nat} {A : Around} (r : Room k A) : A.units < cLine := by have := r.un; omega
def tNil : TA := fun _ H Q => Q [] H
def tCons (ta : TE) (tr : TA) : TA := fun σ H Q => ta σ H fun x H1 => tr σ H1 fun xs H2 => Q (x :: xs) H2
section
variable {X : Cx} {e : Expr} {es : List Expr} {te : TE} {t : TA} {pos : Pos}
theorem pa_nil : PA X [] tNil := fun _ _ _ _ H Q I h => Calls.spliced_nil ⟨[],H,I,.nil,h⟩
theorem pa_cons (ha : PE X e te) (hr : PA X es t) (hs : starEach (e :: es) X.env = (false,eval e X.env) :: starEach es X.env := by rfl) : PA X (e :: es) (tCons te t) := by
  intro pos pins s σ H Q I h
  rw [hs]
  show wpAny _ _ (spliced ((false,eval e X.env) :: backTo pos (starEach es X.env))) _ _ s
  refine Calls.spliced_cons (thn (ha pins s σ H _ I h) fun u s1 ⟨x,H1,I1,r1,q1⟩ => ?_)
  exact thn (hr pos pins s1 σ H1 _ I1 q1) fun us s2 ⟨xs,H2,I2,r2,q2⟩ => ⟨x :: xs,H2,I2,.cons r1 r2,q2⟩
end
abbrev Sp := List V → Hp → VK → XK → Prop
abbrev CXT := List Env → Hp → Shared → XK → Value → Shared → Prop
structure Env0 (P : Program) (w : World) (K : PySem.W.Frag) (mg : Str → Option Value) (base : Heap) (A : Around) (outer : List Env) (s : Shared) (H : Hp) : Prop where
  frames : A.frames = some outer
  mod : Mod K mg base
  bs : ∀ b o,base.get? b = some o → s.heap.get? b = some o ∧ H b = none
  bsz : base.objs.size ≤ s.heap.objs.size
  funs : s.heap.FunFrames base outer
  frf : ∀ b ∈ frs outer,H b = none
  hok : HOk P w H s.heap
  bare : AllBare s.gens
def CE (outer : List Env) (P : Program) (w : World) (H : Hp) (s : Shared) (Q : VK) (u : Value) (s' : Shared) : Prop :=
  ∃ v H',s'.os = s.os ∧ AllBare s'.gens ∧ Un (frs outer) [] H H' s.heap s'.heap ∧ HOk P w H' s'.heap ∧ RelV v u ∧ Q v H'
def CR (CX : CXT) (outer : List Env) (P : Program) (w : World) (H : Hp) (s : Shared) (Q : VK) (E : XK) (r : Result) (s' : Shared) : Prop :=
  match r with
  | .ok (.ret u) => CE outer P w H s Q u s'
  | .ok _ => False
  | .error e => CX outer H s E e s'
structure FnOk (P : Program) (w : World) (K : PySem.W.Frag) (mg : Str → Option Value) (base : Heap) (CX : CXT) (k : Nat) (f : Addr) (fd : FuncData) (ps : List Str) (sp : Sp) : Prop where
  len : ∀ vs H Q E,sp vs H Q E → vs.length = ps.length
  run : ∀ (A : Around) (outer : List Env) (s : Shared) (H : Hp) (args : Args) (us : List Value) (vs : List V) (Q : VK) (E : XK),Room k A → Env0 P w K mg base A outer s H → BindsTo s fd args (ps.zip us) → Vals vs us → sp vs H Q E →
    codeAny (model P w) A (.call (.ref f) args) (CR CX outer P w H s Q E) s
section
variable {X : Cx} {pins : List (Addr × Obj)} {σ : St} {H : Hp} {s s' : Shared}
theorem Inv.env0 (I : Inv X pins σ H s) : Env0 X.prog X.w X.K X.mg X.base X.A X.stack s H :=
  ⟨I.ok.frames,I.ok.mod,I.bs,Nat.le_trans I.ok.bsz I.sz,I.stack,I.stkFree,I.hok,I.bare⟩
theorem Inv.after {Q : VK} {u : Value} (I : Inv X pins σ H s) (h : CE X.stack X.prog X.w H s Q u s') : EP X pins σ Q u s' := by
  obtain ⟨v,H',os,bare,un,hok,r,q⟩ := h
  obtain ⟨hh,g,d,t,os'⟩ := s'
  obtain rfl : os' = s.os := os
  exact ⟨v,H',I.call (h' := hh) (g' := g) (d' := d) (t' := t) (ch := []) un hok bare (fun b z => absurd z (by simp)),r,q⟩
end
def tCall (sp : Sp) (dvs : List V) (E : XK) (t : TA) : TE := fun σ H Q => t σ H fun vs H1 => sp (vs ++ dvs) H1 Q E
def Binds (K : PySem.W.Frag) (fd : FuncData) (ps : List Str) (ds : List Value) : Prop :=
  ∀ (s : Shared) (us : List Value),K.In s.heap → (us ++ ds).length = ps.length → BindsTo s fd ⟨us,[]⟩ (ps.zip (us ++ ds))
theorem Binds.all {K : PySem.W.Frag} {fd : FuncData} {ps : List Str} (h : ∀ us : List Value,us.length = ps.length → bindArgs fd ⟨us,[]⟩ = pure (ps.zip us)) : Binds K fd ps [] := fun s us _ hl => by
  rw [List.append_nil] at hl ⊢
  exact .of_eq (h us hl)
def Passes (CX : CXT) (X : Cx) (E : XK) : Prop := ∀ (pins : List (Addr × Obj)) (σ : St) (H : Hp) (s : Shared) (e : Value) (s' : Shared),Inv X pins σ H s → CX X.stack H s E e s' → X.xe e s'
section
variable {X : Cx} {CX : CXT} {k : Nat} {f C : Addr} {fd : FuncData} {ps : List Str} {sp : Sp} {dvs : List V} {ds : List Value} {E : XK} {x m : Str} {p pos apos : Pos} {e o : Expr} {es : List Expr} {ta : TE} {t : TA}
theorem run_fn {pins : List (Addr × Obj)} {σ : St} {H : Hp} {s : Shared} {Q : VK} {us : List Value} {vs : List V} (F : FnOk X.prog X.w X.K X.mg X.base CX k f fd ps sp) (hr : Room k X.A) (hb : Binds X.K fd ps ds) (hd : Vals dvs ds) (hx : Passes CX X E)
    (I : Inv X pins σ H s) (r : Vals vs us) (h : sp (vs ++ dvs) H Q E) : wpAny (model X.prog X.w) X.A (call (.ref f) us) (EP X pins σ Q) X.xe s := by
  have r2 : Vals (vs ++ dvs) (us ++ ds) := r.append hd
  have hl : (us ++ ds).length = ps.length := by rw [← r2.length]; exact F.len _ _ _ _ h
  refine wpAny_call (codeAny_mono (F.run X.A X.stack s H ⟨us,[]⟩ (us ++ ds) (vs ++ dvs) Q E hr I.env0 (hb s us I.kIn hl) r2 h) fun r s' hq => ?_)
  cases r with
  | error e => exact hx pins σ H s e s' I hq
  | ok fl =>
    cases fl with
    | ret u => exact I.after hq
    | next => exact False.elim hq
    | brk => exact False.elim hq
    | cont => exact False.elim hq
theorem pe_call (F : FnOk X.prog X.w X.K X.mg X.base CX k f fd ps sp) (hr : Room k X.A) (hg : Gl X x) (hm : X.mg x = some (.ref f)) (hk : PySem.W.keepIn X.K (.ref f) = true) (hb : Binds X.K fd ps ds) (hd : Vals dvs ds) (hx : Passes CX X E)
    (ha : PA X (e :: es) t) (hdb : (x == ("__debug__" : Str)) = false := by decide) (he : starEach (e :: es) X.env = (false,eval e X.env) :: starEach es X.env := by rfl) (hpl : (backTo pos (starEach es X.env)).any (·.1) = false := by rfl) :
    PE X (.Call (.Name x p) (e :: es) [] pos) (tCall sp dvs E t) := by
  intro pins s σ H Q I h
  refine wpAny_Call_Name_kw (ld_glob I hg hm ?_ hdb)
  refine PySem.W.callWith_K (h₀ := X.base) I.ok.mod.kin hk (thn (ha pos pins s σ H _ I h) fun us s1 ⟨vs,H1,I1,r,q⟩ => ⟨I1.kIn,?_⟩) he hpl
  exact run_fn F hr hb hd hx I1 r q
end
section
variable {X : Cx} {CX : CXT} {k : Nat} {f C : Addr} {fd : FuncData} {ps ks : List Str} {sp : Sp} {E : XK} {x m : Str} {p pos apos kpos : Pos} {e o : Expr} {es : List Expr} {kws : List Keyword} {te ta : TE} {t tk : TA} {nm : Option Str}
variable {g : List Value → List Value → List Value} {gV : List V → List V → List V}
end
structure FnScope (N P : List Str) (sc : Scope) : Prop where
  kind : sc.kind = .function
  co : sc.isCoroutine = false
  gen : sc.isGenerator = false
  nd : N.Nodup
  pre : N.take P.length = P
  par : ∀ x ∈ P,sc.names.lookup x = some .local ∨ sc.names.lookup x = some .cell
  nofree : ∀ y ∈ sc.names,y.2 ≠ .free
theorem bindL_out {kindOf : Str → Option NameKind} {x : Str} : ∀ {binds : List (Str × Value)} {m : Str → Option Value},(∀ v,(x,v) ∉ binds) → bindL kindOf binds m x = m x
  | [],_,_ => rfl
  | (n,v) :: r,m,h => by
    unfold bindL
    rw [bindL_out fun w hw => h w (List.mem_cons_of_mem _ hw)]
    split
    · have : x ≠ n := by rintro rfl; exact h v List.mem_cons_self
      simp [this]
    · rfl
theorem bindC_out {kindOf : Str → Option NameKind} {x : Str} : ∀ {binds : List (Str × Value)} {m : Str → Option Value},(∀ v,(x,v) ∉ binds) → bindC kindOf binds m x = m x
  | [],_,_ => rfl
  | (n,v) :: r,m,h => by
    unfold bindC
    rw [bindC_out fun w hw => h w (List.mem_cons_of_mem _ hw)]
    split
    · rfl
    · have : x ≠ n := by rintro rfl; exact h v List.mem_cons_self
      simp [this]
theorem bindL_get {kindOf : Str → Option NameKind} {x : Str} {v : Value} : ∀ {P : List Str} {vs : List Value} {i : Nat} {m : Str → Option Value},P.Nodup → P[i]? = some x → vs[i]? = some v → kindOf x = some .local →
    bindL kindOf (P.zip vs) m x = some v
  | [],_,_,_,_,h,_,_ => by simp at h
  | _ :: _,[],_,_,_,_,h,_ => by simp at h
  | p :: P,w :: vs,0,m,nd,h1,h2,hk => by
    simp at h1 h2; subst h1; subst h2
    show bindL kindOf ((p,w) :: P.zip vs) m p = _
    unfold bindL
    rw [bindL_out fun v hv => (List.nodup_cons.mp nd).1 (List.of_mem_zip hv).1,if_pos hk]
    simp
  | p :: P,w :: vs,i + 1,m,nd,h1,h2,hk => by
    show bindL kindOf ((p,w) :: P.zip vs) m x = _
    unfold bindL
    exact bindL_get (i := i) (List.nodup_cons.mp nd).2 (by simpa using h1) (by simpa using h2) hk
theorem bindC_get {kindOf : Str → Option NameKind} {x : Str} {v : Value} : ∀ {P : List Str} {vs : List Value} {i : Nat} {m : Str → Option Value},P.Nodup → P[i]? = some x → vs[i]? = some v → kindOf x ≠ some .local →
    bindC kindOf (P.zip vs) m x = some v
  | [],_,_,_,_,h,_,_ => by simp at h
  | _ :: _,[],_,_,_,_,h,_ => by simp at h
  | p :: P,w :: vs,0,m,nd,h1,h2,hk => by
    simp at h1 h2; subst h1; subst h2
    show bindC kindOf ((p,w) :: P.zip vs) m p = _
    unfold bindC
    rw [bindC_out fun v hv => (List.nodup_cons.mp nd).1 (List.of_mem_zip hv).1,if_neg hk]
    simp
  | p :: P,w :: vs,i + 1,m,nd,h1,h2,hk => by
    show bindC kindOf ((p,w) :: P.zip vs) m x = _
    unfold bindC
    exact bindC_get (i := i) (List.nodup_cons.mp nd).2 (by simpa using h1) (by simpa using h2) hk
def start (N : List Str) (vs : List V) : St := vs.map some ++ List.replicate (N.length - vs.length) none
def cxOf (CX : CXT) (P : Program) (w : World) (K : PySem.W.Frag) (mg : Str → Option Value) (base : Heap) (N : List Str) (qual : Str) (scope : Scope) (f : Addr) (cd : Value) (A : Around) (outer : List Env) (s : Shared) (H : Hp) (E : XK) : Cx where
  prog := P
  w := w
  K := K
  mg := mg
  base := base
  A := A.deeper (envOfC qual scope s.heap.objs.size f cd)
  N := N
  s₀ := s
  H₀ := H
  env := envOfC qual scope s.heap.objs.size f cd
  outer := outer
  stack := envOfC qual scope s.heap.objs.size f cd :: outer
  ex := []
  calm := true
  fn := fun _ => true
  pn := []
  xe := fun e s' => wpAny (model P w) (A.deeper (envOfC qual scope s.heap.objs.size f cd)) (leaving (envOfC qual scope s.heap.objs.size f cd) e) (fun _ s'' => CX outer H s E e s'') (fun e' s'' => CX outer H s E e' s'') s'
theorem cell_has {sc : Scope} {n : Nat} {x : Str} (h : sc.names.lookup x = some .cell) : ∃ c,(cellsFrom n sc.names []).lookup x = some c := by
  have q := PySem.W.cellsFrom_some sc.names n [] (.inl h)
  exact Option.isSome_iff_exists.mp q
theorem inv_start {CX : CXT} {P : Program} {w : World} {K : PySem.W.Frag} {mg : Str → Option Value} {base : Heap} {N ps : List Str} {qual : Str} {scope : Scope} {f : Addr} {cd : Value} {A : Around} {outer : List Env} {s s1 : Shared} {H : Hp} {E : XK} {us : List Value} {vs : List V}
    (S : FnScope N ps scope) (hd : A.handled = none) (e0 : Env0 P w K mg base A outer s H) (hl : vs.length = ps.length) (r : Vals vs us)
    (x : InCallC s s.heap.objs.size (bindL (envOfC qual scope s.heap.objs.size f cd).kindOf (ps.zip us) fun _ => none) (cellsFrom (s.heap.objs.size + 1) scope.names []) (bindC (envOfC qual scope s.heap.objs.size f cd).kindOf (ps.zip us) fun _ => none) s1) :
    Inv (cxOf CX P w K mg base N qual scope f cd A outer s H E) [] (start N vs) H s1 := by
  have hpl : ps.length ≤ N.length := by have := congrArg List.length S.pre; rw [List.length_take] at this; omega
  obtain ⟨h1,tk,rfl,hk⟩ := x.done
  have noA : ∀ b : Addr,b ∉ (cxOf CX P w K mg base N qual scope f cd A outer s H E).ex := fun b z => absurd (show b ∈ ([] : List Addr) from z) (by simp)
  refine ⟨⟨e0.mod,S.kind,rfl,rfl,Nat.le_refl _,fun y z c h1 h2 => ?_,fun y hy => ?_,fun y c _ h => ?_,fun _ => hd,Around.frames_deeper e0.frames,.inr ⟨rfl,rfl⟩,fun b z => absurd z (noA b),e0.bs,e0.bsz,fun b _ _ => noA b,fun b z => absurd z (noA b),e0.funs,e0.frf⟩,
    rfl,e0.bare,Un.kept hk,⟨_,x.toInCall.ns,fun i y v h1 h2 h3 => ?_⟩,fun y c h => ⟨_,x.cell y c h⟩,e0.hok.fresh (Nat.le_refl _),fun y c h => ?_,fun p hp => absurd (show p ∈ ([] : List (Addr × Obj)) from hp) (by simp),e0.hok.kept hk,?_⟩
  · exact name_of_addr x.apart (PySem.mem_of_lookup h1) (PySem.mem_of_lookup h2)
  · have hy : scope.names.lookup y = some .cell ∨ scope.names.lookup y = some .free := hy
    rcases hy with hy | hy
    · exact cell_has hy
    · exact absurd rfl (S.nofree _ (PySem.mem_of_lookup hy))
  · exact Nat.le_of_lt (x.above y c (PySem.mem_of_lookup h))
  · have hi : i < vs.length := by
      unfold start at h2
      by_cases hi : i < vs.length
      · exact hi
      · rw [List.getElem?_append_right (by simpa using hi)] at h2
        rw [List.getElem?_replicate] at h2
        split at h2 <;> cases h2
    have ha : vs[i]? = some v := by
      unfold start at h2
      rw [List.getElem?_append_left (by simpa using hi),List.getElem?_map] at h2
      cases e : vs[i]? with
      | none => rw [e] at h2; cases h2
      | some a => rw [e] at h2; cases h2; rfl
    obtain ⟨u,hu,rv⟩ := r.get ha
    have hp : ps[i]? = some y := by
      rw [← S.pre,List.getElem?_take_of_lt (by omega)]; exact h1
    have ndP : ps.Nodup := by rw [← S.pre]; exact S.nd.sublist (List.take_sublist _ _)
    refine ⟨u,rv,?_⟩
    rcases S.par y (List.mem_of_getElem? hp) with k | k
    · exact .inl ⟨k,bindL_get ndP hp hu k⟩
    · obtain ⟨c,e⟩ := cell_has (n := s.heap.objs.size + 1) k
      refine .inr ⟨.inl k,c,e,?_⟩
      have q := x.cell y c e
      rw [bindC_get ndP hp hu (by show scope.names.lookup y ≠ _; rw [k]; decide)] at q
      exact q
  · exact e0.hok.fresh (Nat.le_of_lt (x.above y c (PySem.mem_of_lookup h)))
  · unfold start
    show _ = N.length
    rw [List.length_append,List.length_map,List.length_replicate]
    omega
theorem fn_of {CX : CXT} {P : Program} {w : World} {K : PySem.W.Frag} {mg : Str → Option Value} {base : Heap} {k : Nat} {f : Addr} {name qual : Str} {params : Arguments} {body : List Stmt} {scope : Scope} {dV kV doc pm cdv ct oc : Value} {an od : Option Addr}
    {osl : Array (Option Value)} {N ps : List Str} {sp : Sp} (lk : K.lookup f = some ⟨oc,od,.func (PySem.W.fnOf name qual params body scope dV kV doc pm an cdv ct),osl⟩) (hcd : PySem.W.codeIn K cdv qual = true) (S : FnScope N ps scope)
    (len : ∀ vs H Q E,sp vs H Q E → vs.length = ps.length)
    (hbody : ∀ (A : Around) (outer : List Env) (s : Shared) (H : Hp) (vs : List V) (Q : VK) (E : XK),Room k (A.deeper (envOfC qual scope s.heap.objs.size f cdv)) → sp vs H Q E →
      ∃ t,PSs (cxOf CX P w K mg base N qual scope f cdv A outer s H E) body t ∧ t { nx := fun _ H' => Q .non H',rt := Q } (start N vs) H) :
    FnOk P w K mg base CX (k + 1) f (PySem.W.fnOf name qual params body scope dV kV doc pm an cdv ct) ps sp := by
  refine ⟨len,fun A outer s H args us vs Q E hr e0 hb r hsp => ?_⟩
  have hl := len _ _ _ _ hsp
  have KX : K.In s.heap := e0.mod.kin.keeps fun b o e => (e0.bs b o e).1
  have lim : s.heap.NoLimit := e0.mod.nolimit.keeps fun b o e => (e0.bs b o e).1
  have hkind : ∀ y ∈ ps.zip us,scope.names.lookup y.1 = some .local ∨ (scope.names.lookup y.1 = some .cell ∧ ((cellsFrom (s.heap.objs.size + 1) scope.names []).lookup y.1).isSome = true) := fun ⟨n,v⟩ hy => by
    rcases S.par n (List.of_mem_zip hy).1 with q | q
    · exact .inl q
    · exact .inr ⟨q,PySem.W.cellsFrom_some _ _ _ (.inl q)⟩
  refine codeAny_call_function hr.depth (KX _ _ lk) rfl S.co S.gen rfl (PySem.W.codeRec_of KX hcd) (hb _ _ _ _ ?_)
  refine wpAny_newFunctionEnv_cells S.kind hkind fun env he s1 x => ?_
  subst he
  refine ⟨lim.keeps x.toInCall.keep,codeAny_func ?_⟩
  obtain ⟨t,ht,hq⟩ := hbody A outer s H vs Q E (hr.deeper _) hsp
  have I : Inv (cxOf CX P w K mg base N qual scope f cdv A outer s H E) [] (start N vs) H s1 := inv_start S hr.hd e0 hl r x
  refine wpAny_mono (ht [] s1 (start N vs) H _ I hq) (fun fl s' hs => ?_) fun e s' hs => hs
  have fin : ∀ {σ' : St} {H' : Hp} {v : V} {u : Value},Inv (cxOf CX P w K mg base N qual scope f cdv A outer s H E) [] σ' H' s' → RelV v u → Q v H' → CE outer P w H s Q u s' :=
    fun {σ' H' v u} J rv q => ⟨v,H',J.os,J.bare,J.base,J.hok,rv,q⟩
  cases fl with
  | ret u =>
    obtain ⟨v,σ',H',J,rv,q⟩ := hs
    exact fin J rv q
  | next =>
    obtain ⟨σ',H',J,q⟩ := hs
    exact fin (v := V.non) (u := Value.none) J rfl q
  | brk =>
    obtain ⟨_,_,_,q⟩ := hs
    exact False.elim q
  | cont =>
    obtain ⟨_,_,_,q⟩ := hs
    exact False.elim q
end L2
namespace L2
open PySem PySem.Spec PyProof.Rows
section
variable {X : Cx} {x : Str} {p pos : Pos} {e : Expr} {es : List Expr} {t : TA} {id T : String} {r : List V → Hp → VK → Prop}
def tCB (r : List V → Hp → VK → Prop) (t : TA) : TE := fun σ H Q => t σ H fun vs H1 => r vs H1 Q
theorem pe_callB (hc : CallR X (.builtin id) r) (hg : Gl X x) (hm : X.mg x = none) (hv : bootBuiltins x = some (.builtin id)) (ha : PA X (e :: es) t) (hn : x ≠ "__name__" := by decide) (hdb : (x == ("__debug__" : Str)) = false := by decide)
    (he : starEach (e :: es) X.env = (false,eval e X.env) :: starEach es X.env := by rfl) (hpl : (backTo pos (starEach es X.env)).any (·.1) = false := by rfl) : PE X (.Call (.Name x p) (e :: es) [] pos) (tCB r t) := by
  intro pins s σ H Q I h
  refine wpAny_Call_Name_kw (ld_blt I hg hm hv ?_ hn hdb)
  exact PyProof.Rows.callWith_builtin1 (thn (ha pos pins s σ H _ I h) fun us s1 ⟨vs,H1,I1,r1,q1⟩ => hc pins s1 σ H1 vs us Q I1 r1 q1) he hpl
theorem pe_callTy (hc : CallR X (.type T) r) (hg : Gl X x) (hm : X.mg x = none) (hv : bootBuiltins x = some (.type T)) (ha : PA X (e :: es) t) (hn : x ≠ "__name__" := by decide) (hdb : (x == ("__debug__" : Str)) = false := by decide)
    (he : starEach (e :: es) X.env = (false,eval e X.env) :: starEach es X.env := by rfl) (hpl : (backTo pos (starEach es X.env)).any (·.1) = false := by rfl) : PE X (.Call (.Name x p) (e :: es) [] pos) (tCB r t) := by
  intro pins s σ H Q I h
  refine wpAny_Call_Name_kw (ld_blt I hg hm hv ?_ hn hdb)
  exact PyProof.Rows.callWith_type1 (thn (ha pos pins s σ H _ I h) fun us s1 ⟨vs,H1,I1,r1,q1⟩ => hc pins s1 σ H1 vs us Q I1 r1 q1) he hpl
end
end L2
namespace HT
open PySem PyProof.Rows
section
open PySem.SeqAt
open PySem.AutoSeq1 (wpAny_loadPart')
open PySem.MeetsSeq PySem.MeetsSeq2 PySem.MeetsSeq3
end
section
variable {prog : Program} {w : World} {A : Around} {E : Value → Shared → Prop} {s : Shared}
def sIx (n d : Nat) : Option Int → Nat
  | none => d
  | some v => if v < 0 then (v + (n : Int)).toNat else min v.toNat n
theorem sIx_none (n d : Nat) : sIx n d none = d := rfl
theorem sIx_nat (n d k : Nat) : sIx n d (some (k : Int)) = min k n := by
  show (if (k : Int) < 0 then ((k : Int) + (n : Int)).toNat else min (k : Int).toNat n) = min k n
  rw [if_neg (by omega),Int.toNat_natCast]
end
end HT
namespace L2
open PySem PySem.Spec PyProof.Rows
abbrev TO := St → Hp → (Option Int → Hp → Prop) → Prop
def PO (X : Cx) (e : Option Expr) (t : TO) : Prop :=
  ∀ (pins : List (Addr × Obj)) (s : Shared) (σ : St) (H : Hp) (Q : Option Int → Hp → Prop),Inv X pins σ H s → t σ H Q →
    wpAny (model X.prog X.w) X.A (evalPart e X.env) (fun u s' => ∃ o H',Inv X pins σ H' s' ∧ IsPart u o ∧ Q o H') X.xe s
def tNoPart : TO := fun _ H Q => Q none H
def tPart (t : TE) : TO := fun σ H Q => t σ H fun x H1 => ∃ i,x = .int i ∧ Q (some i) H1
section
variable {X : Cx} {e : Expr} {te : TE} {lo hi : Option Expr} {tl th : TO} {pos p2 : Pos}
theorem po_none : PO X none tNoPart := by
  intro pins s σ H Q I h
  rw [evalPart_none]
  exact wpAny_pure ⟨none,H,I,.none,h⟩
theorem po_some (h : PE X e te) : PO X (some e) (tPart te) := by
  intro pins s σ H Q I hw
  rw [evalPart_some]
  refine thn (h pins s σ H _ I hw) fun u s1 ⟨x,H1,I1,r1,q1⟩ => ?_
  obtain ⟨i,rfl,q⟩ := q1
  obtain ⟨t,rfl⟩ := r1
  exact ⟨some i,H1,I1,.int i t,q⟩
def SlR (X : Cx) (r : V → Option Int → Option Int → Hp → VK → Prop) : Prop :=
  ∀ (pins : List (Addr × Obj)) (s : Shared) (σ : St) (H : Hp) (x : V) (v vl vu : Value) (lo hi : Option Int) (sl : Addr) (Q : VK),Inv X pins σ H s → RelV x v → s.heap.IsSliceOf sl vl vu .none → IsPart vl lo → IsPart vu hi → r x lo hi H Q →
    ∃ T id,typeLookup (.type T) "__getitem__" = pure (some (.builtin id)) ∧ s.TypeIs v T ∧ wpAny (model X.prog X.w) X.A (getItem v (.ref sl)) (EP X pins σ Q) X.xe s
def tSl (r : V → Option Int → Option Int → Hp → VK → Prop) (te : TE) (tl th : TO) : TE := fun σ H Q => te σ H fun x H1 => tl σ H1 fun l H2 => th σ H2 fun u H3 => r x l u H3 Q
theorem pe_slice {r : V → Option Int → Option Int → Hp → VK → Prop} (hr : SlR X r) (he : PE X e te) (hl : PO X lo tl) (hu : PO X hi th) : PE X (.Subscript e (.Slice lo hi none p2) pos) (tSl r te tl th) := by
  intro pins s σ H Q I h
  refine Subscript_ (thn (he pins s σ H _ I h) fun v s1 ⟨x,H1,I1,r1,q1⟩ => ?_)
  refine wpAny_Slice (thn (hl pins s1 σ H1 _ I1 q1) fun vl s2 ⟨l,H2,I2,pl,q2⟩ => thn (hu pins s2 σ H2 _ I2 q2) fun vu s3 ⟨u,H3,I3,pu,q3⟩ => ?_)
  rw [evalPart_none]
  refine wpAny_pure ?_
  have I4 : Inv X pins σ H3 { s3 with heap := s3.heap.push { cls := .type "slice",data := .fields #[vl,vu,.none] } } := I3.kept (t' := s3.toks) fun b ob q => Heap.get?_push_of_some _ q
  obtain ⟨T,id,hT,ht,hg⟩ := hr pins { s3 with heap := s3.heap.push { cls := .type "slice",data := .fields #[vl,vu,.none] } } σ H3 x v vl vu l u s3.heap.objs.size Q I4 r1 (Heap.IsSliceOf.new ..) pl pu q3
  show wpAny (model X.prog X.w) X.A (subscriptTail e (.Slice lo hi none p2) v (.ref s3.heap.objs.size)) (EP X pins σ Q) X.xe { s3 with heap := s3.heap.push { cls := .type "slice",data := .fields #[vl,vu,.none] } }
  exact tail_any (ops := [.ref s3.heap.objs.size,v]) ht hT hg (by with_unfolding_all rfl)
def cutV (xs : List V) (lo hi : Option Int) : List V := (xs.drop (HT.sIx xs.length 0 lo)).take (HT.sIx xs.length xs.length hi - HT.sIx xs.length 0 lo)
theorem cutV_length (xs : List V) (lo hi : Option Int) : (cutV xs lo hi).length ≤ xs.length := by
  unfold cutV
  rw [List.length_take,List.length_drop]
  omega
end
end L2
namespace L2
open PySem PySem.Spec PyProof.Rows
def ixN (n : Nat) (i : Int) : Option Nat := if 0 ≤ i then (if i < n then some i.toNat else none) else if -(n : Int) ≤ i then some (i + n).toNat else none
def atI {α : Type} (xs : List α) (i : Int) : Option α := (ixN xs.length i).bind fun j => xs[j]?
theorem ixN_seq {n : Nat} {i : Int} {j : Nat} (h : ixN n i = some j) : seqIndex? i n = some j ∧ j < n ∧ -(n : Int) ≤ i ∧ i < n := by
  unfold ixN at h
  by_cases h0 : 0 ≤ i
  · rw [if_pos h0] at h
    by_cases h1 : i < n
    · rw [if_pos h1] at h
      have e : i.toNat = j := Option.some.inj h
      exact ⟨by rw [seqIndex_of h0 h1,e],by omega,by omega,h1⟩
    · rw [if_neg h1] at h; cases h
  · rw [if_neg h0] at h
    by_cases h1 : -(n : Int) ≤ i
    · rw [if_pos h1] at h
      have e : (i + n).toNat = j := Option.some.inj h
      exact ⟨by rw [seqIndex_neg (by omega) h1,e],by omega,h1,by omega⟩
    · rw [if_neg h1] at h; cases h
theorem atI_get {α : Type} {xs : List α} {i : Int} {v : α} (h : atI xs i = some v) : ∃ j,seqIndex? i xs.length = some j ∧ xs[j]? = some v ∧ j < xs.length ∧ -(xs.length : Int) ≤ i ∧ i < xs.length := by
  unfold atI at h
  cases e : ixN xs.length i with
  | none => rw [e] at h; cases h
  | some j =>
    rw [e] at h
    obtain ⟨h1,h2,h3,h4⟩ := ixN_seq e
    exact ⟨j,h1,h,h2,h3,h4⟩
theorem atI_nat {α : Type} {xs : List α} {j : Nat} {v : α} (h : xs[j]? = some v) : atI xs (j : Int) = some v := by
  have hj : j < xs.length := (List.getElem?_eq_some_iff.mp h).1
  have e : ixN xs.length (j : Int) = some j := by
    unfold ixN
    rw [if_pos (by omega),if_pos (by omega)]; simp
  unfold atI; rw [e]; exact h
theorem atI_last {α : Type} (xs : List α) (v : α) : atI (xs ++ [v]) (-1) = some v := by
  have hl : (xs ++ [v]).length = xs.length + 1 := by simp
  have e : ixN (xs ++ [v]).length (-1) = some xs.length := by
    unfold ixN
    rw [hl,if_neg (by decide),if_pos (by omega)]
    congr 1
    omega
  unfold atI
  rw [e]
  show (xs ++ [v])[xs.length]? = some v
  simp
def PlainIx (b : Expr) : Prop := ∀ o i,subscripted b false o i = operate [o,i] (getItem o i)
def IxR (X : Cx) (r : R2) : Prop :=
  ∀ (value slice : Expr) (pins : List (Addr × Obj)) (s : Shared) (σ : St) (H : Hp) (x y : V) (v u : Value) (Q : VK),Inv X pins σ H s → RelV x v → RelV y u → r x y H Q →
    subscripted slice false v u = operate [v,u] (getItem v u) → wpAny (model X.prog X.w) X.A (subscriptTail value slice v u) (EP X pins σ Q) X.xe s
def MtR (X : Cx) (id : String) (r : V → List V → Hp → VK → Prop) : Prop :=
  ∀ (pins : List (Addr × Obj)) (s : Shared) (σ : St) (H : Hp) (x : V) (xs : List V) (v : Value) (us : List Value) (Q : VK),Inv X pins σ H s → RelV x v → Vals xs us → r x xs H Q →
    wpAny (model X.prog X.w) X.A (call (.builtin id) (v :: us)) (EP X pins σ Q) X.xe s
section
variable {X : Cx} {a b : Expr} {ta tb : TE} {pos : Pos}
theorem pe_ix {r : R2} (hr : IxR X r) (ha : PE X a ta) (hb : PE X b tb) (hs : PlainIx b) : PE X (.Subscript a b pos) (tOp r ta tb) := by
  intro pins s σ H Q I h
  exact Subscript_ (binT ha hb I h fun v u s2 x y H2 I2 rx ry q => hr a b pins s2 σ H2 x y v u Q I2 rx ry q (hs _ _))
def rIxL (K : PySem.W.Frag) : R2 := fun x y H Q => ∃ p xs i v,x = .ref p ∧ y = .int i ∧ SqL K H p xs ∧ atI xs i = some v ∧ Q v H
def rIxT (K : PySem.W.Frag) : R2 := fun x y H Q => ∃ p xs i v,x = .ref p ∧ y = .int i ∧ SqT K H p xs ∧ atI xs i = some v ∧ Q v H
theorem ix_list : IxR X (rIxL X.K) := by
  intro value slice pins s σ H x y v u Q I rx ry h hs
  obtain ⟨p,xs,i,z,rfl,rfl,hq,he,q⟩ := h
  cases rx
  obtain ⟨t,rfl⟩ := ry
  obtain ⟨its,r,pl,hz⟩ := I.list hq
  obtain ⟨j,h1,h2,h3,h4,h5⟩ := atI_get he
  obtain ⟨w,ew,rw'⟩ := r.get h2
  have hl := r.length
  have hn := line63
  have fin : EP X pins σ Q w s := ⟨z,H,I,rw',q⟩
  by_cases h0 : 0 ≤ i
  · have hj : i.toNat = j := by
      rw [seqIndex_of h0 h5] at h1
      exact Option.some.inj h1
    exact item_listR pl.isList h0 (by omega) (by rw [hj]; simpa using ew) fin hs
  · have hj : (i + (its.toArray.size : Int)).toNat = j := by
      rw [seqIndex_neg (by omega) h4] at h1
      rw [List.size_toArray,← hl]
      exact Option.some.inj h1
    exact subscriptTail_builtinR (x := w) pl.isList.typeIs slot_list_getitem.lookup
      (wpAny_getItem_list_neg (Q := fun r s' => r = w ∧ EP X pins σ Q r s') pl.isList (by omega) (by rw [List.size_toArray] <;> omega) (by omega) (by rw [hj]; simpa using ew) ⟨rfl,fin⟩) hs
theorem ix_tup : IxR X (rIxT X.K) := by
  intro value slice pins s σ H x y v u Q I rx ry h hs
  obtain ⟨p,xs,i,z,rfl,rfl,hq,he,q⟩ := h
  cases rx
  obtain ⟨t,rfl⟩ := ry
  obtain ⟨its,r,pl,hz⟩ := I.tuple hq
  obtain ⟨j,h1,h2,h3,h4,h5⟩ := atI_get he
  obtain ⟨w,ew,rw'⟩ := r.get h2
  have hl := r.length
  have hn := line63
  have fin : EP X pins σ Q w s := ⟨z,H,I,rw',q⟩
  exact subscriptTail_builtinR (x := w) pl.typeIs slot_tuple_getitem.lookup
    (getItem_tuple (j := j) (Q := fun r s' => r = w ∧ EP X pins σ Q r s') pl (by omega) (by omega) (by rw [List.size_toArray,← hl]; exact h1) (by simpa using ew) ⟨rfl,fin⟩) hs
theorem mapSeq_set (its : List Value) (n j : Nat) (u : Value) : Obj.mapSeq (·.setIfInBounds j u) { cls := .type "list",data := .seq its.toArray n } = { cls := .type "list",data := .seq (its.set j u).toArray n } := by
  simp [Obj.mapSeq]
theorem Inv.lst {pins : List (Addr × Obj)} {σ : St} {H : Hp} {s : Shared} {p : Addr} {xs : List V} (I : Inv X pins σ H s) (h : H p = some (.lst xs)) :
    ∃ (its : List Value) (n : Nat),Vals xs its ∧ s.heap.get? p = some { cls := .type "list",data := .seq its.toArray n } ∧ xs.length ≤ sizeLine := by
  obtain ⟨z,its,n,r,e⟩ := I.hok p _ h
  exact ⟨its,n,r,e,z⟩
theorem Inv.lstUpd {pins : List (Addr × Obj)} {σ : St} {H : Hp} {s : Shared} {p : Addr} {xs ys : List V} {its its' : List Value} {n n' : Nat} {f : Obj → Obj} (I : Inv X pins σ H s) (h : H p = some (.lst xs))
    (ho : s.heap.get? p = some { cls := .type "list",data := .seq its.toArray n }) (hf : f { cls := .type "list",data := .seq its.toArray n } = { cls := .type "list",data := .seq its'.toArray n' }) (r : Vals ys its') (hz : ys.length ≤ sizeLine) (t : Nat) :
    Inv X pins σ (upd H p (.lst ys)) { s with heap := s.heap.update p f,toks := t } := by
  have e : (s.heap.update p f).get? p = some { cls := .type "list",data := .seq its'.toArray n' } := by
    rw [Heap.get?_update_self f ho (by rw [hf] <;> rfl),hf]
  refine I.write (x := p) (e := p) (by rw [h]; trivial) (.inl rfl) (fun b u hb q => (Heap.get?_update_other _ _ (Ne.symm hb)).trans q) ⟨_,e⟩ ?_
  exact ⟨hz,its',n',r,e⟩
def rSetL : V → V → V → Hp → (Hp → Prop) → Prop := fun o i v H Q => ∃ p xs k j,o = .ref p ∧ i = .int k ∧ H p = some (.lst xs) ∧ ixN xs.length k = some j ∧ Q (upd H p (.lst (xs.set j v)))
theorem set_list : PSet X rSetL := by
  intro pins s σ H o i v ov iv u Q I ro ri rv h
  obtain ⟨p,xs,k,j,rfl,rfl,hp,hj,q⟩ := h
  cases ro
  obtain ⟨t,rfl⟩ := ri
  obtain ⟨its,n,r,ho,hz⟩ := I.lst hp
  obtain ⟨h1,h2,h3,h4⟩ := ixN_seq hj
  have hl := r.length
  have hn := line63
  have I' : Inv X pins σ (upd H p (.lst (xs.set j v))) { s with heap := s.heap.update p (Obj.mapSeq (·.setIfInBounds j u)) } :=
    I.lstUpd hp ho (mapSeq_set its n j u) (r.set rv j) (by rw [List.length_set]; exact hz) s.toks
  by_cases h0 : 0 ≤ k
  · have hk : k.toNat = j := by
      rw [seqIndex_of h0 h4] at h1
      exact Option.some.inj h1
    exact PySem.W.ki_setAt ho h0 (by omega) (by rw [List.size_toArray,← hl]; exact h4) (by rw [hk]; exact ⟨_,I',q⟩)
  · have hk : (k + (its.toArray.size : Int)).toNat = j := by
      rw [seqIndex_neg (by omega) h3] at h1
      rw [List.size_toArray,← hl]
      exact Option.some.inj h1
    exact PySem.W.ki_setBack ho (by omega) (by rw [List.size_toArray,← hl]; exact h3) (by omega) (by rw [hk]; exact ⟨_,I',q⟩)
theorem slice_bounds (lo hi : Option Int) (n : Nat) : (sliceBounds lo hi none n).1 = ((HT.sIx n 0 lo : Nat) : Int) ∧ (sliceBounds lo hi none n).2.1 = ((HT.sIx n n hi : Nat) : Int) ∧ (sliceBounds lo hi none n).2.2 = 1 := by
  refine ⟨?_,?_,rfl⟩
  · cases lo with
    | none => simp [sliceBounds,HT.sIx]
    | some i =>
      simp only [sliceBounds,HT.sIx,Option.getD_none,show (1 : Int) > 0 by decide,if_true]
      by_cases h : i < 0
      · simp only [h,if_true] <;> omega
      · simp only [h,if_false] <;> omega
  · cases hi with
    | none => simp [sliceBounds,HT.sIx]
    | some i =>
      simp only [sliceBounds,HT.sIx,Option.getD_none,show (1 : Int) > 0 by decide,if_true]
      by_cases h : i < 0
      · simp only [h,if_true] <;> omega
      · simp only [h,if_false] <;> omega
theorem slicePick_cut (its : List Value) (lo hi : Option Int) : slicePick its.toArray lo hi none = ((its.drop (HT.sIx its.length 0 lo)).take (HT.sIx its.length its.length hi - HT.sIx its.length 0 lo)).toArray := by
  obtain ⟨h1,h2,h3⟩ := slice_bounds lo hi its.toArray.size
  unfold slicePick
  rw [h1,h2,h3]
  simp only [sliceRange_one,pick_run,List.size_toArray] <;> rfl
def rSlL (K : PySem.W.Frag) : V → Option Int → Option Int → Hp → VK → Prop := fun x lo hi H Q => ∃ a xs,x = .ref a ∧ SqL K H a xs ∧ ∀ p,H p = none → Q (.ref p) (upd H p (.lst (cutV xs lo hi)))
theorem sl_list : SlR X (rSlL X.K) := by
  intro pins s σ H x v vl vu lo hi sl Q I rx hs pl pu h
  obtain ⟨a,xs,rfl,hx,q⟩ := h
  cases rx
  obtain ⟨its,r,ht,hz⟩ := I.list hx
  have hlen := r.length
  refine ⟨"list",_,slot_list_getitem.lookup,ht.isList.typeIs,?_⟩
  refine wpAny_getItem_list_slice ht.isList hs pl pu .none (by simp) ?_ (by rw [List.size_toArray] <;> omega)
  rw [slicePick_cut,← hlen]
  refine ⟨.ref s.heap.objs.size,_,I.laid (t' := s.toks) (o := .lst (cutV xs lo hi)) (fun b ob q => Heap.get?_push_of_some _ q) (Nat.le_refl _) ?_,rfl,q _ (I.hok.fresh (Nat.le_refl _))⟩
  exact ⟨Nat.le_trans (cutV_length xs lo hi) hz,_,0,(r.drop (HT.sIx xs.length 0 lo)).take (HT.sIx xs.length xs.length hi - HT.sIx xs.length 0 lo),Heap.get?_push_size _ rfl⟩
def flatV : V → Bool
  | .non => true
  | .bl _ => true
  | .int _ => true
  | .str _ => true
  | _ => false
def eqV : V → V → Bool
  | .non,.non => true
  | .bl a,.bl b => a == b
  | .bl a,.int b => (if a then 1 else 0) == b
  | .int a,.bl b => a == (if b then 1 else 0)
  | .int a,.int b => a == b
  | .str a,.str b => a == b
  | _,_ => false
theorem eqAt_V {A : Around} {s : Shared} {y x : V} {u v : Value} (ry : RelV y u) (rx : RelV x v) (fy : flatV y = true) (fx : flatV x = true) : SeqAt.EqAt A s u v (eqV y x) := by
  cases y with
  | non =>
    cases ry
    cases x with
    | non => cases rx; exact SeqAt.EqAt.same _
    | bl b => cases rx; exact SeqAt.EqAt.none_bool b
    | int b => obtain ⟨t,rfl⟩ := rx; exact SeqAt.EqAt.none_int b t
    | str b => obtain ⟨t,rfl⟩ := rx; exact SeqAt.EqAt.none_str b t
    | _ => exact absurd (show false = true from fx) Bool.false_ne_true
  | bl a =>
    cases ry
    cases x with
    | non => cases rx; exact SeqAt.EqAt.bool_none a
    | bl b => cases rx; exact SeqAt.EqAt.bool_bool a b
    | int b => obtain ⟨t,rfl⟩ := rx; exact SeqAt.EqAt.bool_int a b t
    | str b => obtain ⟨t,rfl⟩ := rx; exact SeqAt.EqAt.bool_str a b t
    | _ => exact absurd (show false = true from fx) Bool.false_ne_true
  | int a =>
    obtain ⟨t',rfl⟩ := ry
    cases x with
    | non => cases rx; exact SeqAt.EqAt.int_none a t'
    | bl b => cases rx; exact SeqAt.EqAt.int_bool a t' b
    | int b => obtain ⟨t,rfl⟩ := rx; exact SeqAt.EqAt.int_int a t' b t
    | str b => obtain ⟨t,rfl⟩ := rx; exact SeqAt.EqAt.int_str a t' b t
    | _ => exact absurd (show false = true from fx) Bool.false_ne_true
  | str a =>
    obtain ⟨t',rfl⟩ := ry
    cases x with
    | non => cases rx; exact SeqAt.EqAt.str_none a t'
    | bl b => cases rx; exact SeqAt.EqAt.str_bool a t' b
    | int b => obtain ⟨t,rfl⟩ := rx; exact SeqAt.EqAt.str_int a t' b t
    | str b => obtain ⟨t,rfl⟩ := rx; exact SeqAt.EqAt.str_str a t' b t
    | _ => exact absurd (show false = true from fx) Bool.false_ne_true
  | _ => exact absurd (show false = true from fy) Bool.false_ne_true
def eqU (x : V) (u : Value) : Bool := match u with
  | .none => eqV .non x
  | .bool b => eqV (.bl b) x
  | .int i _ => eqV (.int i) x
  | .str z _ => eqV (.str z) x
  | _ => false
theorem eqU_of {x y : V} {u : Value} (r : RelV y u) (f : flatV y = true) : eqU x u = eqV y x := by
  cases y with
  | non => cases r; rfl
  | bl b => cases r; rfl
  | int i => obtain ⟨t,rfl⟩ := r; rfl
  | str z => obtain ⟨t,rfl⟩ := r; rfl
  | _ => exact absurd (show false = true from f) Bool.false_ne_true
theorem any_eqU {x : V} : ∀ {xs : List V} {us : List Value},Vals xs us → xs.all flatV = true → us.any (eqU x) = xs.any fun y => eqV y x
  | _,_,.nil,_ => rfl
  | y :: xs,u :: us,.cons r t,f => by
    rw [List.all_cons,Bool.and_eq_true] at f
    rw [List.any_cons,List.any_cons,eqU_of r f.1,any_eqU t f.2]
theorem mem_eqAt {A : Around} {s : Shared} {x : V} {v : Value} (rx : RelV x v) (fx : flatV x = true) : ∀ {xs : List V} {us : List Value},Vals xs us → xs.all flatV = true → ∀ u ∈ us,SeqAt.EqAt A s u v (eqU x u)
  | _,_,.nil,_ => fun u hu => by cases hu
  | y :: xs,u :: us,.cons r t,f => fun u' hu => by
    rw [List.all_cons,Bool.and_eq_true] at f
    rcases List.mem_cons.mp hu with rfl | hu
    · rw [eqU_of r f.1]; exact eqAt_V r rx f.1 fx
    · exact mem_eqAt rx fx t f.2 u' hu
def inV (x : V) (xs : List V) : Bool := xs.any fun y => eqV y x
def rIn (K : PySem.W.Frag) (neg : Bool) : R2 := fun x y H Q => ∃ p xs,y = .ref p ∧ (SqL K H p xs ∨ SqT K H p xs) ∧ flatV x = true ∧ xs.all flatV = true ∧ Q (.bl (if neg then !inV x xs else inV x xs)) H
theorem op_in_seq : OpR X (compareOp .In) (rIn X.K false) := by
  intro pins s σ H x y v u Q I rx ry h
  obtain ⟨p,xs,rfl,hq,fx,fs,q⟩ := h
  cases ry
  rcases hq with hq | hq
  · obtain ⟨its,r,pl,hz⟩ := I.list hq
    refine SeqAt.in_listAt (eqU x) pl.isList (fun w hw => mem_eqAt rx fx r fs w (by simpa using hw)) ⟨.bl _,H,I,rfl,?_⟩
    rw [show its.toArray.any (eqU x) = its.any (eqU x) by simp,any_eqU r fs]
    exact q
  · obtain ⟨its,r,pl,hz⟩ := I.tuple hq
    refine SeqAt.in_tupleAt (eqU x) pl (fun w hw => mem_eqAt rx fx r fs w (by simpa using hw)) ⟨.bl _,H,I,rfl,?_⟩
    rw [show its.toArray.any (eqU x) = its.any (eqU x) by simp,any_eqU r fs]
    exact q
theorem call_len_seq : CallR X (.builtin "len") (fun xs H Q => ∃ p ys,xs = [.ref p] ∧ (SqL X.K H p ys ∨ SqT X.K H p ys) ∧ Q (.int ys.length) H) := by
  intro pins s σ H xs us Q I r h
  obtain ⟨p,ys,rfl,hq,q⟩ := h
  obtain ⟨u,rfl,rx⟩ := vals1 r
  cases rx
  have hn := line63
  rcases hq with hq | hq
  · obtain ⟨its,r',pl,hz⟩ := I.list hq
    have hlen := r'.length
    exact Calls.call_len_list pl.isList (by simp only [List.size_toArray] <;> omega) ⟨.int ys.length,H,I.tok _,⟨s.toks + 1,by rw [List.size_toArray,hlen]⟩,q⟩
  · obtain ⟨its,r',pl,hz⟩ := I.tuple hq
    have hlen := r'.length
    exact len_tuple pl (by simp only [List.size_toArray] <;> omega) ⟨.int ys.length,H,I.tok _,⟨s.toks + 1,by rw [List.size_toArray,hlen]⟩,q⟩
theorem call_list_of : CallR X (.type "list") (fun xs H Q => ∃ p ys,xs = [.ref p] ∧ (SqL X.K H p ys ∨ SqT X.K H p ys) ∧ ∀ l,H l = none → Q (.ref l) (upd H l (.lst ys))) := by
  intro pins s σ H xs us Q I r h
  obtain ⟨p,ys,rfl,hq,q⟩ := h
  obtain ⟨u,rfl,rx⟩ := vals1 r
  cases rx
  have fin : ∀ (its : List Value),Vals ys its → ys.length ≤ sizeLine → ∀ (h' : Heap) (c' : Nat),(∀ b o',s.heap.get? b = some o' → h'.get? b = some o') →
      h'.get? s.heap.objs.size = some { cls := .type "list",dict := none,data := .seq its.toArray c',slots := #[] } → EP X pins σ Q (.ref s.heap.objs.size) { s with heap := h' } := fun its r' hz h' c' kp e =>
    ⟨.ref s.heap.objs.size,_,I.laid (t' := s.toks) kp (Nat.le_refl _) (show ObjOk X.prog X.w _ h' _ (.lst ys) from ⟨hz,its,c',r',e⟩),rfl,q _ (I.hok.fresh (Nat.le_refl _))⟩
  rcases hq with hq | hq
  · obtain ⟨its,r',pl,hz⟩ := I.list hq
    have hlen := r'.length
    obtain ⟨o,ho,hc,n,hd⟩ := pl.isList
    exact call_list_seq p (.inl rfl) ho hc hd (fun h' c' kp e => fin its r' hz h' c' kp e) (by simp only [List.size_toArray] <;> omega)
  · obtain ⟨its,r',pl,hz⟩ := I.tuple hq
    have hlen := r'.length
    obtain ⟨o,ho,hc,n,hd⟩ := pl
    exact call_list_seq p (.inr rfl) ho hc hd (fun h' c' kp e => fin its r' hz h' c' kp e) (by simp only [List.size_toArray] <;> omega)
def tyV (K : PySem.W.Frag) (T : String) (x : V) (H : Hp) : Prop := match x with
  | .str _ => T = "str"
  | .int _ => T = "int"
  | .ref p => (T = "list" ∧ ∃ xs,SqL K H p xs) ∨ (T = "tuple" ∧ ∃ o,K.lookup p = some o ∧ o.cls = .type "tuple" ∧ o.dict = none) ∨
      (T = "dict" ∧ ((∃ kvs,H p = some (.dK kvs)) ∨ ∃ kvs,H p = some (.dT kvs))) ∨ (T = "set" ∧ ∃ S n,H p = some (.set S n))
  | _ => False
theorem tyV_is {pins : List (Addr × Obj)} {σ : St} {H : Hp} {s : Shared} {T : String} {x : V} {v : Value} (I : Inv X pins σ H s) (r : RelV x v) (ty : tyV X.K T x H) :
    s.TypeIs v T ∧ ∀ a,v = .ref a → ∃ ob,s.heap.get? a = some ob ∧ ob.dict = none := by
  cases x with
  | str z =>
    obtain ⟨t,rfl⟩ := r
    cases (show T = "str" from ty)
    exact ⟨typeIs_str s z t,fun _ e => nomatch e⟩
  | int i =>
    obtain ⟨t,rfl⟩ := r
    cases (show T = "int" from ty)
    exact ⟨typeIs_int s i t,fun _ e => nomatch e⟩
  | ref p =>
    cases r
    rcases ty with ⟨rfl,xs,hq⟩ | ⟨rfl,o,hk,hc,hd⟩ | ⟨rfl,hk⟩ | ⟨rfl,S,n,hk⟩
    · obtain ⟨its,_,pl,_⟩ := I.list hq
      refine ⟨pl.isList.typeIs,fun a e => ?_⟩
      cases e
      obtain ⟨o,n,e,c,hd,_⟩ := pl
      exact ⟨o,e,hd⟩
    · refine ⟨⟨o,I.kIn p o hk,hc⟩,fun a e => ?_⟩
      cases e
      exact ⟨o,I.kIn _ o hk,hd⟩
    · have z : ∃ o,s.heap.get? p = some o ∧ o.ExactDict := by
        rcases hk with ⟨kvs,hk⟩ | ⟨kvs,hk⟩
        · obtain ⟨_,_,_,_,o,_,_,e,ex,_⟩ := I.hok p _ hk
          exact ⟨o,e,ex⟩
        · obtain ⟨_,_,_,_,o,_,_,e,ex,_⟩ := I.hok p _ hk
          exact ⟨o,e,ex⟩
      obtain ⟨o,e,ex⟩ := z
      refine ⟨⟨o,e,ex.1⟩,fun a e2 => ?_⟩
      cases e2
      exact ⟨o,e,ex.2.1⟩
    · obtain ⟨o,_,_,_,e,ex,_⟩ := I.hok p _ hk
      refine ⟨⟨o,e,ex.1⟩,fun a e2 => ?_⟩
      cases e2
      exact ⟨o,e,ex.2.1⟩
  | _ => exact False.elim ty
def tBM0 (K : PySem.W.Frag) (T : String) (r : V → List V → Hp → VK → Prop) (to : TE) : TE := fun σ H Q => to σ H fun x H1 => tyV K T x H1 ∧ r x [] H1 Q
def tBM (K : PySem.W.Frag) (T : String) (r : V → List V → Hp → VK → Prop) (to : TE) (t : TA) : TE := fun σ H Q => to σ H fun x H1 => tyV K T x H1 ∧ t σ H1 fun xs H2 => r x xs H2 Q
variable {o e : Expr} {es : List Expr} {to : TE} {t : TA} {name : Str} {apos cpos : Pos} {T id : String} {r : V → List V → Hp → VK → Prop}
theorem pe_bm0 (pa : PlainAttrs T) (slot : Slot T name id) (hty : typeOf (.builtin id) = pure (.type "method_descriptor")) (hm : MtR X id r) (ho : PE X o to)
    (hbase : attributeBase o name X.env (eval o X.env) = eval o X.env := by rfl) (hline : (apos.endLine == cpos.line) = true := by rfl) : PE X (.Call (.Attribute o name apos) [] [] cpos) (tBM0 X.K T r to) := by
  intro pins s σ H Q I h
  refine wpAny_Call_method0_late hbase hline (thn (ho pins s σ H _ I h) fun v s1 ⟨x,H1,I1,r1,ty,q1⟩ => ?_)
  obtain ⟨h1,h2⟩ := tyV_is I1 r1 ty
  exact ⟨T,id,pa,slot,hty,h1,h2,Calls.callWith_builtin rfl (PySem.evalArgs_none (hm pins s1 σ H1 x [] v [] Q I1 r1 .nil q1))⟩
theorem pe_bm (pa : PlainAttrs T) (slot : Slot T name id) (hty : typeOf (.builtin id) = pure (.type "method_descriptor")) (hm : MtR X id r) (ho : PE X o to) (ha : PA X (e :: es) t)
    (hbase : attributeBase o name X.env (eval o X.env) = eval o X.env := by rfl)
    (hfew : ((backTo cpos (starEach (e :: es) X.env)).all (fun x => !x.1) && (backToKw cpos (keywordEach [] X.env)).all (fun x => x.1.isSome)
      && decide ((e :: es).length + ([] : List Keyword).length + (if ([] : List Keyword).isEmpty then 0 else 1) < 30)) = true := by rfl)
    (hline : (apos.endLine == cpos.line) = true := by rfl) (hs : starEach (e :: es) X.env = (false,eval e X.env) :: starEach es X.env := by rfl) (hplain : (backTo cpos (starEach es X.env)).any (·.1) = false := by rfl) :
    PE X (.Call (.Attribute o name apos) (e :: es) [] cpos) (tBM X.K T r to t) := by
  intro pins s σ H Q I h
  refine wpAny_Call_method_late hbase hfew hline rfl (thn (ho pins s σ H _ I h) fun v s1 ⟨x,H1,I1,r1,ty,q1⟩ => ?_)
  obtain ⟨h1,h2⟩ := tyV_is I1 r1 ty
  refine ⟨T,id,pa,slot,hty,h1,h2,?_⟩
  have hA := ha cpos pins s1 σ H1 _ I1 q1
  rw [hs] at hA ⊢
  refine Calls.callWith_builtin (by show (false || (backTo cpos (starEach es X.env)).any (·.1)) = false; rw [hplain] <;> rfl) (Calls.evalArgs_plain ?_)
  exact thn hA fun us s2 ⟨vs,H2,I2,r2,q2⟩ => hm pins s2 σ H2 x vs v us Q I2 r1 r2 q2
end
end L2
namespace L2
open PySem PySem.Spec PyProof.Rows
def MtM (X : Cx) (id : String) (r : V → List V → Hp → VK → Prop) : Prop :=
  ∀ (pins : List (Addr × Obj)) (s : Shared) (σ : St) (H : Hp) (x : V) (xs : List V) (v : Value) (us : List Value) (Q : VK),Inv X pins σ H s → RelV x v → Vals xs us → r x xs H Q →
    wpAny (model X.prog X.w) X.A (call (.builtin id) (v :: us)) (EP X pins σ Q) X.xe s
theorem Vals.one : ∀ {x : V} {us : List Value},Vals [x] us → ∃ u,us = [u] ∧ RelV x u
  | _,_,.cons r .nil => ⟨_,rfl,r⟩
theorem Vals.zero : ∀ {us : List Value},Vals [] us → us = []
  | _,.nil => rfl
theorem Vals.reverse {xs : List V} {us : List Value} (h : Vals xs us) : Vals xs.reverse us.reverse := by
  induction h with
  | nil => exact .nil
  | cons r t ih => rw [List.reverse_cons,List.reverse_cons]; exact Vals.append ih (.cons r .nil)
theorem Vals.rep {xs : List V} {us : List Value} (h : Vals xs us) : ∀ k : Nat,Vals (List.replicate k xs).flatten (List.replicate k us).flatten
  | 0 => .nil
  | k + 1 => by
    rw [List.replicate_succ,List.replicate_succ,List.flatten_cons,List.flatten_cons]
    exact Vals.append h (Vals.rep h k)
theorem foldl_rep (its : List Value) : ∀ (k : Nat) (acc : List Value),
    List.foldl (fun x1 x2 => x1 ++ x2) acc.toArray (List.replicate k its.toArray) = (acc ++ (List.replicate k its).flatten).toArray
  | 0,acc => by simp
  | k + 1,acc => by
    have e : acc.toArray ++ its.toArray = (acc ++ its).toArray := by simp
    have e2 : (acc ++ its) ++ (List.replicate k its).flatten = acc ++ (List.replicate (k + 1) its).flatten := by
      rw [List.replicate_succ,List.flatten_cons,List.append_assoc]
    rw [← e2,← foldl_rep its k (acc ++ its),← e,List.replicate_succ,List.foldl_cons]
section
variable {X : Cx} {pins : List (Addr × Obj)} {σ : St} {H : Hp} {s : Shared} {l b : Addr} {xs ys zs : List V}
theorem Inv.lset {its its' : List Value} {n : Nat} {f : Array Value → Array Value} {t' : Nat} (I : Inv X pins σ H s) (hH : H l = some (.lst xs))
    (e : s.heap.get? l = some { cls := .type "list",data := .seq its.toArray n }) (hf : f its.toArray = its'.toArray) (hv : Vals ys its') (hz : ys.length ≤ sizeLine) :
    Inv X pins σ (upd H l (.lst ys)) { s with heap := s.heap.update l (Obj.mapSeq f),toks := t' } := by
  have q := PySem.IsL.update e f
  rw [hf] at q
  refine I.write (x := l) (e := l) (by rw [hH]; exact trivial) (.inl rfl) (fun b' u hb hu => (Heap.get?_update_other s.heap (Obj.mapSeq f) (Ne.symm hb)).trans hu) ⟨_,q⟩ ?_
  exact ⟨hz,its',_,hv,q⟩
theorem Inv.lnew {its : List Value} {t' : Nat} (I : Inv X pins σ H s) (hv : Vals ys its) (hz : ys.length ≤ sizeLine) :
    Inv X pins σ (upd H s.heap.objs.size (.lst ys)) { s with heap := s.heap.push { cls := .type "list",data := .seq its.toArray },toks := t' } :=
  I.laid (fun _ _ q => Heap.get?_push_of_some _ q) (Nat.le_refl _) ⟨hz,its,0,hv,Heap.get?_push_size _ rfl⟩
theorem Inv.fresh (I : Inv X pins σ H s) : H s.heap.objs.size = none := I.hok.fresh (Nat.le_refl _)
theorem Inv.lstM (I : Inv X pins σ H s) (hH : H l = some (.lst xs)) : xs.length ≤ sizeLine ∧ ∃ (its : List Value) (n : Nat),Vals xs its ∧ xs.length = its.length ∧ s.heap.get? l = some { cls := .type "list",data := .seq its.toArray n } := by
  obtain ⟨z,its,n,r,e⟩ := I.hok l _ hH
  exact ⟨z,its,n,r,r.length,e⟩
theorem notLongL {n : Nat} (h : n ≤ sizeLine) : Builtin.List.listTooLong n = false := by
  unfold Builtin.List.listTooLong
  exact decide_eq_false (by omega)
end
section
variable {X : Cx}
def rAppend : V → List V → Hp → VK → Prop := fun x vs H Q => ∃ l xs y,x = .ref l ∧ vs = [y] ∧ H l = some (.lst xs) ∧ xs.length < sizeLine ∧ Q .non (upd H l (.lst (xs ++ [y])))
theorem mt_append : MtM X "list.append" rAppend := by
  intro pins s σ H x vs v us Q I rx rv h
  obtain ⟨l,xs,y,rfl,rfl,hH,hz,q⟩ := h
  cases rx
  obtain ⟨u,rfl,ru⟩ := rv.one
  obtain ⟨z,its,n,r,hl,e⟩ := I.lstM hH
  refine call_meets F.slot_list_append ⟨_,e,rfl⟩ F.entry_list_append (F.args_list_append_2 _ _) (PySem.list_append l its.toArray n u (by rw [List.size_toArray]; omega)) ⟨e,?_⟩
  refine ⟨.non,_,I.lset (its' := its ++ [u]) hH e (by simp) (r.append (.cons ru .nil)) ?_,rfl,q⟩
  rw [List.length_append,List.length_singleton]
  omega
def rReverse : V → List V → Hp → VK → Prop := fun x vs H Q => ∃ l xs,x = .ref l ∧ vs = [] ∧ H l = some (.lst xs) ∧ Q .non (upd H l (.lst xs.reverse))
theorem mt_reverse : MtM X "list.reverse" rReverse := by
  intro pins s σ H x vs v us Q I rx rv h
  obtain ⟨l,xs,rfl,rfl,hH,q⟩ := h
  cases rx
  have hus := rv.zero
  subst hus
  obtain ⟨z,its,n,r,hl,e⟩ := I.lstM hH
  refine call_meets F.slot_list_reverse ⟨_,e,rfl⟩ F.entry_list_reverse (F.args_list_reverse_1 _) (AutoSeq1.list_reverse_list_0 l its.toArray n (by rw [List.size_toArray]; omega)) ⟨e,?_⟩
  refine ⟨.non,_,I.lset (its' := its.reverse) hH e (by simp) r.reverse ?_,rfl,q⟩
  rw [List.length_reverse]
  omega
def rRep : R2 := fun x y H Q => ∃ l k xs,x = .ref l ∧ y = .int k ∧ H l = some (.lst xs) ∧ -(2 ^ 63) ≤ k ∧ k < 2 ^ 63 ∧ xs.length * k.toNat ≤ sizeLine ∧
  ∀ p,H p = none → Q (.ref p) (upd H p (.lst (List.replicate k.toNat xs).flatten))
theorem len_rep {α : Type} (xs : List α) (k : Nat) : (List.replicate k xs).flatten.length = k * xs.length := by
  induction k with
  | zero => simp
  | succ k ih => rw [List.replicate_succ,List.flatten_cons,List.length_append,ih,Nat.succ_mul,Nat.add_comm]
theorem op_rep : OpR X (binaryOp .Mult) rRep := by
  intro pins s σ H x y v u Q I rx ry h
  obtain ⟨l,k,xs,rfl,rfl,hH,h1,h2,hz,q⟩ := h
  cases rx
  obtain ⟨t,rfl⟩ := ry
  obtain ⟨z,its,n,r,hl,e⟩ := I.lstM hH
  have hlen : its.toArray.size * k.toNat ≤ sizeLine := by rw [List.size_toArray,← hl]; exact hz
  have hcap : ¬ its.toArray.size * k.toNat > (2 ^ 63 - 1) / 8 := by
    have : (sizeLine : Nat) ≤ (2 ^ 63 - 1) / 8 := by decide
    omega
  have hfit : ¬ (!Builtin.List.listFitsIndex k) = true := by
    rw [fitsIndex_both h1 h2]
    exact Bool.false_ne_true
  have hlong : ¬ Builtin.List.listTooLong (its.toArray.size * k.toNat) = true := by
    rw [notLongL hlen]
    exact Bool.false_ne_true
  have hnew : List.foldl (fun x1 x2 => x1 ++ x2) #[] (List.replicate (if its.toArray.isEmpty = true then 0 else k.toNat) its.toArray) = (List.replicate k.toNat its).flatten.toArray := by
    have f0 : ∀ m : Nat,List.foldl (fun x1 x2 => x1 ++ x2) #[] (List.replicate m its.toArray) = (List.replicate m its).flatten.toArray := fun m => by
      have := foldl_rep its m []
      rw [List.nil_append] at this
      exact this
    rw [f0]
    cases its with
    | nil => simp
    | cons a r' => rw [if_neg (by simp)]
  refine wpAny_binaryOp_repeat_ref (T := "list") (U := "int") (by decide) ⟨_,e,rfl⟩ (fun s' => typeIs_int s' k t) noFill_list_mul F.fills_int_mul F.slot_int_rmul repeat_list F.slot_int_index.lookup
    (call_meets F.slot_int_rmul (typeIs_int s k t) F.entry_int_rmul (F.args_int_rmul_2 _ _) (int___rmul___int_list k t l its.toArray n)
      ⟨e,rfl,⟨_,e,rfl⟩,call_meets F.slot_list_mul ⟨_,e,rfl⟩ F.entry_list_mul (F.args_list_mul_2 _ _) (AutoListH.list___mul___list_int_3 l its.toArray n k t hfit hcap hlong) ⟨e,?_⟩⟩)
  rw [hnew]
  exact ⟨.ref _,_,I.lnew (t' := s.toks) (r.rep k.toNat) (by rw [len_rep,Nat.mul_comm]; exact hz),rfl,q _ I.fresh⟩
end
section
variable {prog : Program} {w : World} {A : Around} {E : Value → Shared → Prop} {s : Shared}
set_option maxRecDepth 100000 in
end
section
variable {X : Cx}
end
end L2
namespace Att
open PySem PySem.W PySem.Calls PyProof.Rows
theorem ints_of_wellAll {P : Params} {h : Heap} : ∀ (ns : List Int) (vs : List Value),WellAll P h vs (ns.map WData.int) → IntsAre vs ns := by
  intro ns
  induction ns with
  | nil =>
    intro vs w
    rw [List.map_nil] at w
    cases w
    exact .nil
  | cons n ns ih =>
    intro vs w
    rw [List.map_cons] at w
    cases w with
    | cons a b =>
      cases a
      exact .cons _ _ (ih _ b)
theorem script_of {l : OpenLaw} {n : Nat} (hn : l.most = some n) {P : Params} {h : Heap} {args : List WData} {vals : List Value}
    (hpre : l.row.toRowW.claim.pre args = true) (hwl : WellAll P h vals args) :
    ∃ a vs ns,vals = [Value.ref a] ∧ args = [WData.list (ns.map WData.int)] ∧ h.get? a = some { cls := .type "list",data := .seq vs.toArray } ∧ IntsAre vs ns ∧ ns.length ≤ n := by
  have hsh : WShape.hasAll [] args [.list .int] = true := (pre_splitW hpre).1
  have hc : l.pre.holds [] { args := args } = true := (pre_splitW hpre).2
  obtain ⟨d,r,rfl,h1,h2⟩ := hasAllW_cons hsh
  obtain rfl := hasAllW_nil h2
  obtain ⟨xs,rfl,h3⟩ := hasW_list h1
  obtain ⟨ns,rfl⟩ := items_int h3
  have hlen : ns.length ≤ n := by
    unfold OpenLaw.pre at hc
    have h4 : (WTm.not (.lt (.lit (.int (n : Int))) (.len (.arg 0)))).holds [] { args := [.list (ns.map .int)] } = true := by
      have h4 := (holds_andW hc).1
      rw [hn] at h4
      exact h4
    have h5 := condW_of h4 (w_not (w_lt w_lit (w_len_list (w_arg rfl))))
    rw [List.length_map] at h5
    refine Nat.le_of_not_lt fun q => ?_
    have q' : (n : Int) < ((ns.length : Nat) : Int) := by omega
    first
      | (rw [decide_eq_true q'] at h5; exact absurd h5 (by decide))
      | (simp at h5; omega)
  cases hwl with
  | cons w1 w2 =>
    cases w2
    cases w1 with
    | list ho hall => exact ⟨_,_,ns,rfl,rfl,ho,ints_of_wellAll ns _ hall,hlen⟩
theorem post_true (l : OpenLaw) (args : List WData) : l.row.toRowW.claim.post args (.bool true) args = true :=
  postW_of (r := l.row.toRowW) (X := (true == true))
    (show WShape.has [] (.bool true) .bool = true by first | rfl | decide | simp [WShape.has,WShape.arms,WShape.armsAll])
    (show (WTm.eq .res (.lit (.bool true))).value [] { args := args,res := some (.bool true),after := args } = some (.bool (true == true)) from w_eq_bool (w_res rfl) w_lit) rfl
theorem attach_call {l : OpenLaw} {n : Nat} {q : Program} {loose : List Str} {XP : (Str → Option Value) → Heap → Prop} {YP : World → Heap → Prop} {d : DefRec}
    (hn : l.most = some n) (hdf : d.params.defaults = [])
    (call : ∀ (w : World) (s₀ s₁ : Shared) (mg mb : Str → Option Value) (fa : Addr) (o : Obj) (pm cd doc : Value) (a : Addr) (vs : List Value) (ns : List Int),
      Ground q loose [] XP w s₀ mg mb s₁.heap → YP w s₁.heap →
      s₁.heap.get? fa = some o → o.data = .func (docDef d.name d.params d.body d.scope pm cd doc) → s₁.heap.CodeRec cd d.name → mg d.name = some (.ref fa) →
      s₁.heap.get? a = some { cls := .type "list",data := .seq vs.toArray } → IntsAre vs ns → ns.length ≤ n → s₁.gens = #[] →
      codeAny (model l.prog w) callerA (.call (.ref fa) ⟨[.ref a],[]⟩) (fun r s' => r = .ok (.ret (.bool true)) ∧ OldK s₁.heap s'.heap ∧ s'.os = s₁.os ∧ AllBare s'.gens) s₁) :
    WalkO q loose XP YP l.row.toRowW d [] (fun f vs => PySem.call f vs) := by
  intro w s₀ s₁ mg mb G Y fa o pm cd doc dV kV ho hd hcd hD hmg hg args vals as hpre hlay hrd hwl hlo
  obtain rfl : dV = .none := Dflts.none hD hdf
  obtain rfl : kV = .none := Dflts.noKw hD
  obtain ⟨a,vs,ns,rfl,rfl,hobj,hints,hlen⟩ := script_of hn hpre hwl
  refine enter_call (codeAny_mono (call w s₀ s₁ mg mb fa o pm cd doc a vs ns G Y ho (fd_plain hd) hcd hmg hobj hints hlen hg) fun r s' hq => ?_)
  obtain ⟨rfl,h2,h3,h4⟩ := hq
  exact ⟨.inl ⟨.bool true,.bool true,[],rfl,fun _ => rfl,.bool true,post_true l _,fun _ => ⟨List.Pairwise.nil,fun _ hm => (nomatch hm)⟩⟩,h2,h3,h4⟩
section
variable {prog : Program} {w : World} {A : Around} {E : Value → Shared → Prop} {s : Shared} {K : Frag}
end
end Att
namespace L2
open PySem PySem.Spec PyProof.Rows
theorem vals_ints : ∀ {vs : List Value} {ns : List Int},IntsAre vs ns → Vals (ns.map V.int) vs
  | _,_,.nil => .nil
  | _,_,.cons n t h => .cons ⟨t,rfl⟩ (vals_ints h)
end L2
namespace L2
open PySem PySem.Spec PyProof.Rows
end L2
namespace L2
open PySem PySem.Spec PyProof.Rows
def defArgs (s : Stmt) : Arguments := match s with
  | .FunctionDef _ a _ _ _ _ _ _ _ _ => a
  | _ => { posonlyargs := [],args := [],vararg := none,kwonlyargs := [],kw_defaults := [],kwarg := none,defaults := [] }
def defBody (s : Stmt) : List Stmt := match s with
  | .FunctionDef _ _ b _ _ _ _ _ _ _ => b
  | _ => []
def defScope (s : Stmt) : Scope := match s with
  | .FunctionDef _ _ _ _ _ _ sc _ _ _ => sc
  | _ => { kind := .function,names := [],isGenerator := false,isCoroutine := false }
abbrev CX0 : CXT := fun _ _ _ _ _ _ => False
abbrev E0 : XK := fun _ _ _ => False
theorem pass0 {X : Cx} : Passes CX0 X E0 := fun _ _ _ _ _ _ _ h => h.elim
section
variable {P : Program} {w : World} {K : PySem.W.Frag} {mg : Str → Option Value} {base : Heap}
end
theorem hu_of {A : Around} {k : Nat} (hr : Room k A) : A.units + 1 < cLine := Nat.lt_of_le_of_lt (Nat.add_le_add_left (by decide : 1 ≤ 64) _) hr.units
theorem small1000 {n : Nat} (h : n ≤ 1000) : n < sizeLine := Nat.lt_of_le_of_lt h (by decide)
section
variable {X : Cx}
theorem pv (i : Nat) {x : Str} {pos : Pos} (hN : X.N[i]? = some x := by rfl) (hv : Vis X.env.scope x := by first | exact Or.inl rfl | exact Or.inr (Or.inl rfl) | exact Or.inr (Or.inr rfl)) (hd : (x == ("__debug__" : Str)) = false := by decide)
    (hcd : (x == ("__classdict__" : Str)) = false := by decide) : PE X (.Name x pos) (tVar i) := pe_var hN hv hd hcd
end
theorem iteF {A B : Prop} (h : B) : if false = true then A else B := by
  rw [if_neg Bool.false_ne_true]
  exact h
theorem iteT {A B : Prop} (h : A) : if true = true then A else B := by
  rw [if_pos rfl]
  exact h
def Same (H H' : Hp) : Prop := ∀ b o,H b = some o → H' b = some o
theorem Same.refl (H : Hp) : Same H H := fun _ _ h => h
theorem Same.trans {H H1 H2 : Hp} (a : Same H H1) (b : Same H1 H2) : Same H H2 := fun c o h => b c o (a c o h)
theorem Same.free {H H' : Hp} (e : Same H H') {l : Addr} (h : H' l = Option.none) : H l = Option.none := by
  cases q : H l with
  | none => rfl
  | some o =>
    rw [e l o q] at h
    cases h
theorem Same.seq {K : PySem.W.Frag} {H H' : Hp} {a : Addr} {xs : List V} (e : Same H H') (h : SqL K H a xs) : SqL K H' a xs := by
  rcases h with (h | ⟨o,h⟩) | h
  · exact .inl (.inl (e _ _ h))
  · exact .inl (.inr ⟨o,e _ _ h⟩)
  · exact .inr h
end L2
end
section
set_option Elab.async false
set_option linter.all false
set_option maxRecDepth 100000
set_option maxHeartbeats 4000000
namespace Mth
theorem gcd_step {a b : Int} (ha : 0 ≤ a) (hb : 0 < b) : Int.gcd b (a % b) = Int.gcd a b := by
  obtain ⟨m,rfl⟩ := Int.eq_ofNat_of_zero_le ha
  obtain ⟨n,rfl⟩ := Int.eq_ofNat_of_zero_le (Int.le_of_lt hb)
  rw [← Int.natCast_emod]
  show Nat.gcd (n : Int).natAbs ((m % n : Nat) : Int).natAbs = Nat.gcd (m : Int).natAbs (n : Int).natAbs
  simp only [Int.natAbs_natCast]
  rw [Nat.gcd_comm m n,Nat.gcd_comm n (m % n)]
  exact (Nat.gcd_rec n m).symm
theorem gcd_abs (a b : Int) : Int.gcd (if a < 0 then -a else a) b = Int.gcd a b := by
  split
  · exact Int.neg_gcd
  · rfl
theorem gcd_abs' (a b : Int) : Int.gcd a (if b < 0 then -b else b) = Int.gcd a b := by
  rw [Int.gcd_comm,gcd_abs,Int.gcd_comm]
theorem gcd_zero {a : Int} (ha : 0 ≤ a) : (Int.gcd a 0 : Int) = a := by
  rw [Int.gcd_zero]; omega
structure Low (t b : Int) : Prop where
  pos : 1 ≤ b
  one : Int.gcd t b = 1
theorem gcd_pos {a b : Int} (h : b ≠ 0) : 0 < (Int.gcd a b : Int) := by
  have := Int.gcd_pos_of_ne_zero_right a h
  omega
theorem div_eq (a b : Int) : a = a / (Int.gcd a b : Int) * (Int.gcd a b : Int) := (Int.ediv_mul_cancel (Int.gcd_dvd_left a b)).symm
theorem div_eq' (a b : Int) : b = b / (Int.gcd a b : Int) * (Int.gcd a b : Int) := (Int.ediv_mul_cancel (Int.gcd_dvd_right a b)).symm
theorem div_low {a b : Int} (hb : 0 < b) : Low (a / (Int.gcd a b : Int)) (b / (Int.gcd a b : Int)) := by
  have hg := gcd_pos (a := a) (b := b) (by omega)
  refine ⟨?_,?_⟩
  · have h1 := div_eq' a b
    have h2 : 0 < b / (Int.gcd a b : Int) := Int.ediv_pos_of_pos_of_dvd hb (by omega) (Int.gcd_dvd_right a b)
    omega
  · rw [Int.gcd_ediv (Int.gcd_dvd_left a b) (Int.gcd_dvd_right a b)]
    simp only [Int.natAbs_natCast]
    exact Nat.div_self (by omega)
structure Frac (top bottom t b : Int) : Prop where
  low : Low t b
  eq : top * b = t * bottom
theorem frac_pos {a b : Int} (hb : 0 < b) : Frac a b (a / (Int.gcd a b : Int)) (b / (Int.gcd a b : Int)) := by
  refine ⟨div_low hb,?_⟩
  have h1 := div_eq a b
  have h2 := div_eq' a b
  generalize a / (Int.gcd a b : Int) = x at *
  generalize b / (Int.gcd a b : Int) = y at *
  generalize (Int.gcd a b : Int) = g at *
  subst h1 h2
  grind
end Mth
namespace L2
open PySem PySem.Spec PyProof.Rows
abbrev bits (i : Int) : Nat := Builtin.Int.intBits i
theorem bits_of {i : Int} {n : Nat} (h : i.natAbs < 2 ^ n) : bits i ≤ n := intBits_le h
theorem bits_lt {i : Int} {n : Nat} (h : bits i ≤ n) : i.natAbs < 2 ^ n := by
  unfold bits Builtin.Int.intBits at h
  by_cases h0 : i = 0
  · subst h0
    exact Nat.pos_of_ne_zero (by simp)
  · rw [if_neg (by simpa using h0)] at h
    have h1 : i.natAbs ≠ 0 := by omega
    exact (Nat.log2_lt h1).mp (by omega)
theorem bits_mono {i j : Int} {n : Nat} (h : i.natAbs ≤ j.natAbs) (hj : bits j ≤ n) : bits i ≤ n := bits_of (Nat.lt_of_le_of_lt h (bits_lt hj))
theorem bits_mul {i j : Int} {m n : Nat} (hi : bits i ≤ m) (hj : bits j ≤ n) : bits (i * j) ≤ m + n := by
  refine bits_of ?_
  rw [Int.natAbs_mul,Nat.pow_add]
  exact Nat.mul_lt_mul'' (bits_lt hi) (bits_lt hj)
theorem bits_add {i j : Int} {n : Nat} (hi : bits i ≤ n) (hj : bits j ≤ n) : bits (i + j) ≤ n + 1 := by
  refine bits_of ?_
  have h1 := bits_lt hi
  have h2 := bits_lt hj
  have h3 : (2 : Nat) ^ (n + 1) = 2 * 2 ^ n := by rw [Nat.pow_succ,Nat.mul_comm]
  omega
theorem bits_sub {i j : Int} {n : Nat} (hi : bits i ≤ n) (hj : bits j ≤ n) : bits (i - j) ≤ n + 1 := by
  refine bits_of ?_
  have h1 := bits_lt hi
  have h2 := bits_lt hj
  have h3 : (2 : Nat) ^ (n + 1) = 2 * 2 ^ n := by rw [Nat.pow_succ,Nat.mul_comm]
  omega
theorem bits_neg {i : Int} {n : Nat} (hi : bits i ≤ n) : bits (-i) ≤ n := bits_mono (by omega) hi
theorem bits_ediv {i j : Int} {n : Nat} (hj : 0 < j) (hi : bits i ≤ n) : bits (i / j) ≤ n := by
  refine bits_mono ?_ hi
  exact Int.natAbs_ediv_le_natAbs i j
theorem bits_range {i b : Int} {n : Nat} (h0 : 0 ≤ i) (h1 : i ≤ b) (hb : bits b ≤ n) : bits i ≤ n := bits_mono (by omega) hb
theorem bits_le {i : Int} {m n : Nat} (h : bits i ≤ m) (hm : m ≤ n) : bits i ≤ n := Nat.le_trans h hm
section
variable {X : Cx} {pos : Pos}
def CM (i j : Int) : Prop := IntMulOk i j
theorem CM.b {i j : Int} {m n : Nat} (hi : bits i ≤ m) (hj : bits j ≤ n) (hm : m ≤ 2 ^ 20) (hn : n ≤ 2 ^ 20) : CM i j := IntMulOk.of_bits (Nat.le_trans hi hm) (Nat.le_trans hj hn)
theorem CM.l {i j : Int} (h : -(2 ^ 64) < i ∧ i < 2 ^ 64) : CM i j := CMul.ok (.inl h)
theorem CM.r {i j : Int} (h : -(2 ^ 64) < j ∧ j < 2 ^ 64) : CM i j := CMul.ok (.inr h)
theorem op_mulX : OpR X (binaryOp .Mult) (rI CM fun i j => .int (i * j)) := opI fun _ _ _ _ _ _ _ hc q => mul_int q hc
def CD (_ j : Int) : Prop := 0 < j ∧ bits j ≤ 8000
theorem log2_of_bits {j : Int} {n : Nat} (hj : j ≠ 0) (h : bits j ≤ n) (hn : n ≤ 9000) : j.natAbs.log2 < 9000 := by
  have h1 : j.natAbs ≠ 0 := by omega
  have h2 := (Nat.log2_lt h1).mpr (bits_lt h)
  omega
theorem op_fdivP : OpR X (binaryOp .FloorDiv) (rI CD fun i j => .int (i / j)) := opI fun i j _ _ _ _ _ hc q => by
  have h1 : (0 : Int) < j := hc.1
  exact floordiv_int (by omega) (by rw [Int.fdiv_eq_ediv_of_nonneg i (by omega)]; exact q) (.inl (PyProof.noPylong_of_log2 (log2_of_bits (by omega) hc.2 (by decide))))
end
theorem bt_int : bootBuiltins "int" = some (.type "int") := by decide +kernel
theorem bt_bool : bootBuiltins "bool" = some (.type "bool") := by decide +kernel
theorem bt_str : bootBuiltins "str" = some (.type "str") := by decide +kernel
theorem bt_tuple : bootBuiltins "tuple" = some (.type "tuple") := by decide +kernel
theorem bt_list : bootBuiltins "list" = some (.type "list") := by decide +kernel
theorem bt_isinstance : bootBuiltins "isinstance" = some (.builtin "isinstance") := by decide +kernel
theorem bt_abs : bootBuiltins "abs" = some (.builtin "abs") := by decide +kernel
theorem bt_len : bootBuiltins "len" = some (.builtin "len") := by decide +kernel
theorem bt_min : bootBuiltins "min" = some (.builtin "min") := by decide +kernel
theorem bt_max : bootBuiltins "max" = some (.builtin "max") := by decide +kernel
theorem pe_ty {X : Cx} {x : Str} {T : String} {pos : Pos} (hm : X.mg x = none) (hv : bootBuiltins x = some (.type T)) (hg : Gl X x := by rfl) (hn : x ≠ "__name__" := by decide) (hd : (x == ("__debug__" : Str)) = false := by decide) :
    PE X (.Name x pos) (tC (.ty T)) := pe_bltn hg hm hv rfl hn hd
inductive Kn (H : Hp) : V → String → Prop where
  | non : Kn H .non "NoneType"
  | bl (b : Bool) : Kn H (.bl b) "bool"
  | int (i : Int) : Kn H (.int i) "int"
  | str (x : Str) : Kn H (.str x) "str"
  | lst {a : Addr} {xs : List V} (e : H a = some (.lst xs)) : Kn H (.ref a) "list"
  | tup {a : Addr} {xs : List V} (e : H a = some (.tup xs)) : Kn H (.ref a) "tuple"
  | dict {a : Addr} {kvs : List (Key × V)} (e : H a = some (.dK kvs)) : Kn H (.ref a) "dict"
theorem Kn.ty {K : PySem.W.Frag} {H : Hp} {x : V} {t : String} (k : Kn H x t) : TyOf K H x (.type t) := by
  cases k with
  | non => exact .non
  | bl b => exact .bl b
  | int i => exact .int i
  | str x => exact .str x
  | lst e => exact .lst e
  | tup e => exact .tup e
  | dict e => exact .dK e
def isSub (t T : String) : Bool := t == T || (t == "bool" && T == "int")
def Nice (T : String) : Prop := T = "int" ∨ T = "bool" ∨ T = "tuple" ∨ T = "list" ∨ T = "str"
theorem kit_of (K : PySem.W.Frag) {H : Hp} {x : V} {t T : String} (k : Kn H x t) (n : Nice T) : PySem.W.kitOne K (.type t) (.type T) = some (isSub t T) := by
  rcases n with rfl | rfl | rfl | rfl | rfl <;> cases k <;> kernel_rfl
theorem call_isinst {X : Cx} : CallR X (.builtin "isinstance") (fun xs H Q => ∃ x t T,xs = [x,.ty T] ∧ Kn H x t ∧ Nice T ∧ Q (.bl (isSub t T)) H) := by
  intro pins s σ H xs us Q I rs h
  obtain ⟨x,t,T,rfl,k,n,q⟩ := h
  obtain ⟨u,v,rfl,ru,rv⟩ := vals2 rs
  cases (show v = Value.type T from rv)
  exact isinst_ok I ru k.ty (kit_of X.K k n) fun tk => ⟨.bl _,H,I.tok _,rfl,q⟩
structure Fn (P : Program) (w : World) (K : PySem.W.Frag) (mg : Str → Option Value) (base : Heap) (x : Str) (ps : List Str) (k : Nat) (sp : Sp) : Prop where
  ex : ∃ (f : Addr) (fd : FuncData) (o : Obj),mg x = some (.ref f) ∧ PySem.W.keepIn K (.ref f) = true ∧ (∀ us : List Value,us.length = ps.length → bindArgs fd ⟨us,[]⟩ = pure (ps.zip us)) ∧ (K.lookup f = some o ∧ o.data = .func fd) ∧ FnOk P w K mg base CX0 k f fd ps sp
theorem pe_fn {X : Cx} {x : Str} {ps : List Str} {k : Nat} {sp : Sp} {p pos : Pos} {e : Expr} {es : List Expr} {t : TA} (F : Fn X.prog X.w X.K X.mg X.base x ps k sp) (hr : Room k X.A) (hg : Gl X x) (ha : PA X (e :: es) t)
    (hdb : (x == ("__debug__" : Str)) = false := by decide) (he : starEach (e :: es) X.env = (false,eval e X.env) :: starEach es X.env := by rfl) (hpl : (backTo pos (starEach es X.env)).any (·.1) = false := by rfl) :
    PE X (.Call (.Name x p) (e :: es) [] pos) (tCall sp [] E0 t) := by
  obtain ⟨f,fd,o,hm,hk,hb,_,G⟩ := F.ex
  exact pe_call G hr hg hm hk (.all hb) .nil pass0 ha hdb he hpl
structure Df (K : PySem.W.Frag) (mg : Str → Option Value) (x : Str) (st : Stmt) : Prop where
  ex : ∃ (f : Addr) (oc : Value) (od : Option Addr) (kV doc pm : Value) (an : Option Addr) (cdv ct : Value) (osl : Array (Option Value)),
    mg x = some (.ref f) ∧ K.lookup f = some ⟨oc,od,.func (PySem.W.fnOf x x (defArgs st) (defBody st) (defScope st) .none kV doc pm an cdv ct),osl⟩ ∧ PySem.W.codeIn K cdv x = true ∧ PySem.W.keepIn K (.ref f) = true
theorem df_mk {K : PySem.W.Frag} {mg : Str → Option Value} {h : Heap} {x : Str} {st : Stmt} {f : Addr} {oc : Value} {od an : Option Addr} {osl : Array (Option Value)} {kV doc pm cdv ct : Value} (X : K.In h) (G : h.Ns mainGlobals mg)
    (a : PySem.W.nsIn K mainGlobals x = some (some (.ref f))) (l : K.lookup f = some ⟨oc,od,.func (PySem.W.fnOf x x (defArgs st) (defBody st) (defScope st) .none kV doc pm an cdv ct),osl⟩) (c : PySem.W.codeIn K cdv x = true) (k : PySem.W.keepIn K (.ref f) = true) :
    Df K mg x st := ⟨⟨f,oc,od,kV,doc,pm,an,cdv,ct,osl,PySem.W.mg_of X G a,l,c,k⟩⟩
theorem Df.fn {P : Program} {w : World} {K : PySem.W.Frag} {mg : Str → Option Value} {base : Heap} {x : Str} {st : Stmt} {N ps : List Str} {k : Nat} {sp : Sp} (D : Df K mg x st) (S : FnScope N ps (defScope st))
    (hbind : ∀ (kV doc pm : Value) (an : Option Addr) (cdv ct : Value) (us : List Value),us.length = ps.length → bindArgs (PySem.W.fnOf x x (defArgs st) (defBody st) (defScope st) .none kV doc pm an cdv ct) ⟨us,[]⟩ = pure (ps.zip us))
    (len : ∀ vs H Q E,sp vs H Q E → vs.length = ps.length)
    (hbody : ∀ (f : Addr) (cdv : Value) (A : Around) (outer : List Env) (s : Shared) (H : Hp) (vs : List V) (Q : VK) (E : XK),Room k (A.deeper (envOfC x (defScope st) s.heap.objs.size f cdv)) → sp vs H Q E →
      ∃ t,PSs (cxOf CX0 P w K mg base N x (defScope st) f cdv A outer s H E).nox (defBody st) t ∧ t { nx := fun _ H' => Q .non H',rt := Q } (start N vs) H) : Fn P w K mg base x ps (k + 1) sp := by
  obtain ⟨f,oc,od,kV,doc,pm,an,cdv,ct,osl,hm,lk,hcd,hk⟩ := D.ex
  refine ⟨⟨f,_,_,hm,hk,hbind kV doc pm an cdv ct,⟨lk,rfl⟩,fn_of lk hcd S len fun A outer s H vs Q E hr hsp => ?_⟩⟩
  obtain ⟨t,h,q⟩ := hbody f cdv A outer s H vs Q E hr hsp
  exact ⟨t,h.nox,q⟩
theorem law_fd {P : Program} {w : World} {K : PySem.W.Frag} {mg : Str → Option Value} {fa : Addr} {k : Nat} {sp : Sp} (h : Heap) (hfa : mg "law" = some (.ref fa)) (F : ∀ base : Heap,Fn P w K mg base "law" ["script"] k sp) :
    ∃ fd : FuncData,(∀ (s : Shared) (v : Value),BindsTo s fd ⟨[v],[]⟩ [("script",v)]) ∧ ∀ base : Heap,K.In base → base.Ns mainGlobals mg → FnOk P w K mg base CX0 k fa fd ["script"] sp := by
  obtain ⟨f,fd,o,hm,_,hb,⟨hl,hd⟩,_⟩ := (F h).ex
  rw [hfa] at hm
  cases hm
  refine ⟨fd,fun s v => .of_eq (hb [v] rfl),fun base _ _ => ?_⟩
  obtain ⟨f',fd',o',hm',_,_,⟨hl',hd'⟩,G⟩ := (F base).ex
  rw [hfa] at hm'
  cases hm'
  rw [hl] at hl'
  cases hl'
  rw [hd] at hd'
  cases hd'
  exact G
theorem Same.new {H : Hp} {p : Addr} {o : HO} (h : H p = none) : Same H (upd H p o) := fun b o' e => by
  rw [upd_ne (ne_of_none e h)]
  exact e
theorem ite3 {c : Bool} {A B : Prop} (h1 : c = true → A) (h2 : c = false → B) : if c = true then A else B := by
  cases c with
  | true => exact iteT (h1 rfl)
  | false => exact iteF (h2 rfl)
theorem iteFalse {b : Bool} {A B : Prop} (hb : b = false) (h : B) : if b = true then A else B := by
  subst hb
  exact iteF h
theorem iteTrue {b : Bool} {A B : Prop} (hb : b = true) (h : A) : if b = true then A else B := by
  subst hb
  exact iteT h
def isIntV : V → Bool
  | .int _ => true
  | _ => false
end L2
namespace Sp1
open PySem PySem.Spec L2 Mth
def spWhole : Sp := fun vs H Q _ => ∃ x t,vs = [x] ∧ Kn H x t ∧ Q (.bl (isIntV x)) H
def spGcd : Sp := fun vs H Q _ => ∃ a b : Int,vs = [.int a,.int b] ∧ Q (.int (Int.gcd a b : Int)) H
def spLess : Sp := fun vs H Q _ => ∃ (p q : Addr) (a b c d : Int),vs = [.ref p,.ref q] ∧ H p = some (.tup [.int a,.int b]) ∧ H q = some (.tup [.int c,.int d]) ∧ (bits a ≤ 2000 ∧ bits b ≤ 2000 ∧ bits c ≤ 2000 ∧ bits d ≤ 2000) ∧ Q (.bl (decide (a * d < c * b))) H
def lowB (a b : Int) : Bool := decide (1 ≤ b) && decide (Int.gcd a b = 1)
def lowL : List V → Bool
  | [.int a,.int b] => lowB a b
  | _ => false
def lowV (H : Hp) : V → Bool
  | .ref p => match H p with
    | some (.tup xs) => lowL xs
    | _ => false
  | _ => false
structure Thing (H : Hp) (x : V) : Prop where
  kn : ∃ t,Kn H x t
  parts : ∀ p xs,x = .ref p → H p = some (.tup xs) → ∀ y ∈ xs,∃ t,Kn H y t
def spLow : Sp := fun vs H Q _ => ∃ x,vs = [x] ∧ Thing H x ∧ Q (.bl (lowV H x)) H
theorem whole_sub {H : Hp} {x : V} {t : String} (k : Kn H x t) : (isSub t "int" = true → (!isSub t "bool") = isIntV x) ∧ (isSub t "int" = false → isIntV x = false) := by
  cases k with
  | non => exact ⟨fun h => absurd h (by decide),fun _ => rfl⟩
  | bl b => exact ⟨fun _ => (show (!isSub "bool" "bool") = false by decide),fun h => absurd h (by decide)⟩
  | int i => exact ⟨fun _ => (show (!isSub "int" "bool") = true by decide),fun h => absurd h (by decide)⟩
  | str x => exact ⟨fun h => absurd h (by decide),fun _ => rfl⟩
  | lst e => exact ⟨fun h => absurd h (by decide),fun _ => rfl⟩
  | tup e => exact ⟨fun h => absurd h (by decide),fun _ => rfl⟩
  | dict e => exact ⟨fun h => absurd h (by decide),fun _ => rfl⟩
theorem abs_nonneg (a : Int) : 0 ≤ (if a < 0 then -a else a) := by split <;> omega
theorem Kn.cases_int {H : Hp} {y : V} {t : String} (k : Kn H y t) : (∃ a,y = .int a ∧ t = "int") ∨ ((∀ a,y ≠ .int a) ∧ isIntV y = false) := by
  cases k with
  | int a => exact .inl ⟨a,rfl,rfl⟩
  | non => exact .inr ⟨fun a e => (nomatch e),rfl⟩
  | bl b => exact .inr ⟨fun a e => (nomatch e),rfl⟩
  | str x => exact .inr ⟨fun a e => (nomatch e),rfl⟩
  | lst e => exact .inr ⟨fun a e => (nomatch e),rfl⟩
  | tup e => exact .inr ⟨fun a e => (nomatch e),rfl⟩
  | dict e => exact .inr ⟨fun a e => (nomatch e),rfl⟩
theorem Kn.cases_tup {H : Hp} {y : V} {t : String} (k : Kn H y t) : (∃ p xs,y = .ref p ∧ H p = some (.tup xs) ∧ t = "tuple") ∨ (lowV H y = false ∧ isSub t "tuple" = false) := by
  cases k with
  | tup e => exact .inl ⟨_,_,rfl,e,rfl⟩
  | non => exact .inr ⟨rfl,by decide⟩
  | bl b => exact .inr ⟨rfl,by decide⟩
  | str x => exact .inr ⟨rfl,by decide⟩
  | int a => exact .inr ⟨rfl,by decide⟩
  | lst e => exact .inr ⟨by simp only [lowV,e],by decide⟩
  | dict e => exact .inr ⟨by simp only [lowV,e],by decide⟩
theorem lowV_tup {H : Hp} {p : Addr} {xs : List V} (e : H p = some (.tup xs)) : lowV H (.ref p) = lowL xs := by simp only [lowV,e]
theorem lowL_len {xs : List V} (h : xs.length ≠ 2) : lowL xs = false := by
  unfold lowL
  split
  · exact absurd rfl h
  · rfl
theorem lowL_fst {y z : V} (h : ∀ a,y ≠ .int a) : lowL [y,z] = false := by
  unfold lowL
  split
  · rename_i a b e
    cases e
    exact absurd rfl (h a)
  · rfl
theorem lowL_snd {y z : V} (h : ∀ a,z ≠ .int a) : lowL [y,z] = false := by
  unfold lowL
  split
  · rename_i a b e
    cases e
    exact absurd rfl (h b)
  · rfl
theorem sz {n : Nat} (h : n ≤ 1000) : n ≤ sizeLine := Nat.le_of_lt (small1000 h)
theorem atI_mem {α : Type} {xs : List α} {k : Int} (h0 : 0 ≤ k) (h1 : k < (xs.length : Int)) : ∃ v,atI xs k = some v ∧ v ∈ xs := by
  have hk : k.toNat < xs.length := by omega
  have ek : k = ((k.toNat : Nat) : Int) := by omega
  have q := atI_nat (xs := xs) (j := k.toNat) (List.getElem?_eq_getElem hk)
  rw [← ek] at q
  exact ⟨xs[k.toNat],q,List.getElem_mem hk⟩
theorem gcd_bits2 {a b : Int} {n : Nat} (hb : b ≠ 0) (h : bits b ≤ n) : bits (Int.gcd a b : Int) ≤ n := by
  refine bits_mono ?_ h
  have h1 : (Int.gcd a b) ∣ b.natAbs := Int.gcd_dvd_natAbs_right a b
  have h2 := Nat.le_of_dvd (by omega) h1
  omega
end Sp1
namespace L2
open PySem PySem.Spec PyProof.Rows
theorem all_same (ns ms : List Int) : ((List.range (min ns.length ms.length)).all (fun j => decide (ns[j]? = ms[j]?)) && ns.length == ms.length) = decide (ns = ms) := by
  rw [Bool.eq_iff_iff]
  simp only [Bool.and_eq_true,List.all_eq_true,List.mem_range,decide_eq_true_eq,beq_iff_eq]
  constructor
  · rintro ⟨h1,h2⟩
    refine List.ext_getElem? fun j => ?_
    by_cases hj : j < ns.length
    · exact h1 j (by omega)
    · rw [List.getElem?_eq_none (by omega),List.getElem?_eq_none (by omega)]
  · rintro rfl
    exact ⟨fun _ _ => rfl,rfl⟩
theorem val_at {ns : List Int} {us : List Value} {j : Nat} (r : Vals (ns.map V.int) us) (h : j < us.length) : ∃ a,ns[j]? = some a ∧ RelV (.int a) us[j] := by
  have hl := r.length
  rw [List.length_map] at hl
  have hj : j < ns.length := by omega
  obtain ⟨u,e,q⟩ := r.get (i := j) (x := .int ns[j]) (by rw [List.getElem?_map,List.getElem?_eq_getElem hj]; rfl)
  rw [List.getElem?_eq_getElem h] at e
  cases e
  exact ⟨ns[j],List.getElem?_eq_getElem hj,q⟩
section
variable {X : Cx}
def rEqI (K : PySem.W.Frag) (neg : Bool) : R2 := fun x y H Q => ∃ (p q : Addr) (ns ms : List Int),x = .ref p ∧ y = .ref q ∧ SqT K H p (ns.map V.int) ∧ SqT K H q (ms.map V.int) ∧ Q (.bl (if neg then !decide (ns = ms) else decide (ns = ms))) H
theorem items_eq {A : Around} {s : Shared} {ns ms : List Int} {us vs : List Value} (r : Vals (ns.map V.int) us) (r' : Vals (ms.map V.int) vs) (j : Nat) (h1 : j < us.toArray.size) (h2 : j < vs.toArray.size) :
    SeqAt.EqAt A s us.toArray[j] vs.toArray[j] (decide (ns[j]? = ms[j]?)) := by
  rw [List.size_toArray] at h1 h2
  obtain ⟨a,ea,ra⟩ := val_at r h1
  obtain ⟨b,eb,rb⟩ := val_at r' h2
  have q := eqAt_V (A := A) (s := s) ra rb rfl rfl
  have e : eqV (.int a) (.int b) = decide (ns[j]? = ms[j]?) := by
    rw [ea,eb]
    show (a == b) = decide (some a = some b)
    rw [Bool.eq_iff_iff]
    simp
  rw [e] at q
  exact q
theorem op_eqI (hu : X.A.units < cLine) : OpR X (compareOp .Eq) (rEqI X.K false) := by
  intro pins s σ H x y v u Q I rx ry h
  obtain ⟨p,q,ns,ms,rfl,rfl,hp,hq,k⟩ := h
  cases rx
  cases ry
  obtain ⟨its,r,pl,_⟩ := I.tuple hp
  obtain ⟨jts,r',pl',_⟩ := I.tuple hq
  refine SeqAt.eq_tupleAt pl pl' hu (items_eq r r') ⟨.bl _,H,I,rfl,?_⟩
  have e1 := r.length
  have e2 := r'.length
  rw [List.length_map] at e1 e2
  rw [List.size_toArray,List.size_toArray,← e1,← e2,all_same]
  exact k
theorem op_neI (hu : X.A.units < cLine) : OpR X (compareOp .NotEq) (rEqI X.K true) := by
  intro pins s σ H x y v u Q I rx ry h
  obtain ⟨p,q,ns,ms,rfl,rfl,hp,hq,k⟩ := h
  cases rx
  cases ry
  obtain ⟨its,r,pl,_⟩ := I.tuple hp
  obtain ⟨jts,r',pl',_⟩ := I.tuple hq
  refine SeqAt.RcNeAt.tuples pl pl' hu (items_eq r r') _ _ _ _ ⟨.bl _,H,I,rfl,?_⟩
  have e1 := r.length
  have e2 := r'.length
  rw [List.length_map] at e1 e2
  rw [List.size_toArray,List.size_toArray,← e1,← e2,all_same]
  exact k
end
end L2
namespace L2
open PySem PySem.Spec PyProof.Rows
section
variable {prog : Program} {w : World} {A : Around} {E : Value → Shared → Prop}
end
end L2
namespace L2
open PySem PySem.Spec PyProof.Rows
theorem ObjOk.has {P : Program} {w : World} {H : Hp} {h : Heap} {a : Addr} {o : HO} (x : ObjOk P w H h a o) : ∃ ob,h.get? a = some ob := by
  cases o with
  | lst xs => obtain ⟨_,_,_,_,e⟩ := x; exact ⟨_,e⟩
  | tup xs => obtain ⟨_,_,_,ob,e,_⟩ := x; exact ⟨_,e⟩
  | dK kvs => obtain ⟨_,_,_,_,ob,_,_,e,_⟩ := x; exact ⟨_,e⟩
  | dT kvs => obtain ⟨_,_,_,_,ob,_,_,e,_⟩ := x; exact ⟨_,e⟩
  | set S n => obtain ⟨ob,_,_,_,e,_⟩ := x; exact ⟨_,e⟩
  | ins C dx fs => obtain ⟨_,_,_,e,_⟩ := x; exact ⟨_,e⟩
  | own y => obtain ⟨ob,e⟩ := x; exact ⟨_,e⟩
  | xd fs => obtain ⟨_,⟨od,_,_,e,_⟩,_⟩ := x; exact ⟨_,e⟩
  | rng lo hi => obtain ⟨_,_,_,e⟩ := x; exact ⟨_,e⟩
  | frz ob u => obtain ⟨e,_⟩ := x; exact ⟨_,e⟩
  | tbl ps => exact ⟨_,(show h.get? a = some _ from x)⟩
  | met f y => exact ⟨_,(show h.get? a = some _ from x)⟩
  | ext φ => obtain ⟨_,⟨ob,e⟩,_⟩ := x; exact ⟨_,e⟩
structure Big (B : Heap) (fs : List Addr) (H' : Hp) (h : Heap) : Prop where
  tr : ∀ b o,H' b = some o → ∃ ob,B.get? b = some ob
  old : ∀ b o,h.get? b = some o → b ∉ fs → ∃ ob,B.get? b = some ob
section
variable {P : Program} {w : World} {fs fs' : List Addr} {H H1 H' : Hp} {h h1 h2 B : Heap}
theorem Un.fly (un : Un fs [] H H' h h1) (big : Big B fs H' h) (st1 : B.StaysIn h1) (st2 : B.StaysIn h2) (sl : h1.UpToSlots h2)
    (fr : ∀ b ∈ fs,H b = none ∧ ∀ o,h1.get? b = some o → ∀ vs,o.data ≠ .fields vs) : Un fs [] H H' h h2 where
  keep := fun b o e n hb hx => by
    have e1 := un.keep b o e n hb hx
    obtain ⟨ob,eb⟩ := big.old b o e hb
    have e2 := st1 b ob eb
    rw [e1] at e2
    cases e2
    exact st2 b _ eb
  slot := fun b o e n hb hx => by
    obtain ⟨s1,e1⟩ := un.slot b o e n hb hx
    obtain ⟨s2,e2⟩ := sl b _ e1 ((fr b hb).2 _ e1)
    exact ⟨s2,e2⟩
  free := un.free
  there := fun b o e hx => by
    by_cases hb : b ∈ fs
    · obtain ⟨s1,e1⟩ := un.slot b o e (fr b hb).1 hb hx
      obtain ⟨s2,e2⟩ := sl b _ e1 ((fr b hb).2 _ e1)
      exact ⟨_,e2⟩
    · obtain ⟨ob,eb⟩ := big.old b o e hb
      exact ⟨_,st2 b ob eb⟩
  tups := un.tups
  frzs := un.frzs
  tbls := un.tbls
theorem HOk.fly (hok : HOk P w H' h1) (big : Big B fs H' h) (st1 : B.StaysIn h1) (st2 : B.StaysIn h2) : HOk P w H' h2 := fun a o e => by
  refine (hok a o e).stay (fun b u hb q => ?_) (fun _ q => q) fun _ _ q => q
  have hb' : ∃ ob,B.get? b = some ob := by
    rcases hb with z | z
    · rw [z]
      exact big.tr a o e
    · exact big.tr b _ z
  obtain ⟨ob,eb⟩ := hb'
  have e2 := st1 b ob eb
  rw [q] at e2
  cases e2
  exact st2 b _ eb
theorem Un.shed (a : Un fs [] H H1 h h1) (b : Un fs' [] H1 H' h1 h2) (sub : ∀ x ∈ fs,x ∈ fs') (out : ∀ x o,h.get? x = some o → x ∈ fs' → x ∈ fs) : Un fs [] H H' h h2 where
  keep := fun x o e n hx hn => b.keep x o (a.keep x o e n hx hn) (a.free x o e n hn) (fun z => hx (out x o e z)) hn
  slot := fun x o e n hx hn => by
    obtain ⟨s1,e1⟩ := a.slot x o e n hx hn
    obtain ⟨s2,e2⟩ := b.slot x _ e1 (a.free x o e n hn) (sub x hx) hn
    exact ⟨s2,e2⟩
  free := fun x o e n hn => by
    obtain ⟨o1,e1⟩ := a.there x o e hn
    exact b.free x o1 e1 (a.free x o e n hn) hn
  there := fun x o e hn => by
    obtain ⟨o1,e1⟩ := a.there x o e hn
    exact b.there x o1 e1 hn
  tups := fun x xs e => b.tups x xs (a.tups x xs e)
  frzs := fun x o xs e => b.frzs x o xs (a.frzs x o xs e)
  tbls := fun x ps e => by
    obtain ⟨m1,e1⟩ := a.tbls x ps e
    obtain ⟨m2,e2⟩ := b.tbls x _ e1
    exact ⟨m1 ++ m2,by rw [e2,Array.append_assoc]⟩
end
def CXE (P : Program) (w : World) : CXT := fun outer H s E e s' => ∃ (ea t : Addr) (cls : Value) (H' : Hp) (B : Heap),
  e = .ref ea ∧ s'.os = s.os ∧ AllBare s'.gens ∧ Un (frs outer) [] H H' s.heap s'.heap ∧ HOk P w H' s'.heap ∧ Heap.FlyingW B outer ea cls (.ref t) s'.heap ∧ Big B (frs outer) H' s.heap ∧ E cls none H'
section
variable {P : Program} {w : World} {K : PySem.W.Frag} {mg : Str → Option Value} {base : Heap} {N : List Str} {qual : Str} {scope : Scope} {f : Addr} {cdv : Value} {A : Around} {outer : List Env} {s₀ : Shared} {H₀ : Hp} {E : XK}
theorem frs_cons {env : Env} {L : Addr} (hf : env.frame = some L) (l : List Env) : frs (env :: l) = L :: frs l := by
  unfold frs
  rw [List.filterMap_cons,hf]
theorem raised {pins : List (Addr × Obj)} {σ : St} {H : Hp} {s : Shared} {h' : Heap} {e : Addr} {cls : Value} {vs : List Value} (I : Inv (cxOf (CXE P w) P w K mg base N qual scope f cdv A outer s₀ H₀ E) pins σ H s)
    (hx : Heap.MadeExcOf s.heap h' e cls vs) (q : E cls none H) : (cxOf (CXE P w) P w K mg base N qual scope f cdv A outer s₀ H₀ E).xe (.ref e) { s with heap := h' } := by
  have hin : ∀ env ∈ (cxOf (CXE P w) P w K mg base N qual scope f cdv A outer s₀ H₀ E).stack,∀ a,env.frame = some a → a ∈ frs (cxOf (CXE P w) P w K mg base N qual scope f cdv A outer s₀ H₀ E).stack :=
    fun env he a ha => List.mem_filterMap.mpr ⟨env,he,ha⟩
  have neL : ∀ b o,s₀.heap.get? b = some o → b ∉ frs outer → b ∉ frs (cxOf (CXE P w) P w K mg base N qual scope f cdv A outer s₀ H₀ E).stack := fun b o eb hb hm => by
    rcases List.mem_cons.mp (I.stkSub b hm) with z | z
    · exact absurd z (Nat.ne_of_lt (Nat.lt_of_lt_of_le (Heap.lt_size eb) I.ok.above))
    · exact hb z
  refine wpAny_leaves_madeW (base := PySem.W.hideAll s.heap (frs (cxOf (CXE P w) P w K mg base N qual scope f cdv A outer s₀ H₀ E).stack)) (h := s.heap) (L := s₀.heap.objs.size) I.ok.frames rfl (fun b o z => PySem.W.of_hideAll _ z) (PySem.W.funFrames_hide I.stack hin) hx fun h'' t fl _ _ up => ?_
  have big : Big (PySem.W.hideAll s.heap (frs (cxOf (CXE P w) P w K mg base N qual scope f cdv A outer s₀ H₀ E).stack)) (frs outer) H s₀.heap := by
    refine ⟨fun b o eb => ?_,fun b o eb hb => ?_⟩
    · obtain ⟨ob,z⟩ := (I.hok b o eb).has
      refine ⟨ob,PySem.W.hideAll_get _ z fun hm => ?_⟩
      rw [I.stkFree b hm] at eb
      cases eb
    · obtain ⟨ob,z⟩ := I.base.there b o eb (by intro z; cases z)
      exact ⟨ob,PySem.W.hideAll_get _ z (neL b o eb hb)⟩
  have st1 : (PySem.W.hideAll s.heap (frs (cxOf (CXE P w) P w K mg base N qual scope f cdv A outer s₀ H₀ E).stack)).StaysIn s.heap := fun b o z => PySem.W.of_hideAll _ z
  have sl : s.heap.UpToSlots h'' := (Heap.UpToSlots.of_keeps hx.keeps).trans up
  exact ⟨e,t,cls,H,_,rfl,I.os,I.bare,Un.fly I.base big st1 fl.1 sl fun b hb => ⟨I.ok.frf b hb,fun o eo => by
      obtain ⟨_,o',eo',nf⟩ := I.funs.mem hb
      rw [eo] at eo'
      cases eo'
      exact nf⟩,HOk.fly I.hok big st1 fl.1,fl,big,q⟩
theorem pass_on {E1 : XK} (hE : ∀ c o H',E1 c o H' → E c o H') : Passes (CXE P w) (cxOf (CXE P w) P w K mg base N qual scope f cdv A outer s₀ H₀ E) E1 := by
  intro pins σ H s e s' I h
  obtain ⟨ea,t,cls,H',B,rfl,os,bare,un,hok,fl,big,q⟩ := h
  refine wpAny_leaves_onW (L := s₀.heap.objs.size) I.ok.frames rfl fl fun h'' fl' up => ?_
  have out : ∀ x o,s₀.heap.get? x = some o → x ∈ frs (cxOf (CXE P w) P w K mg base N qual scope f cdv A outer s₀ H₀ E).stack → x ∈ frs outer := fun x o ex hm => by
    rcases List.mem_cons.mp (I.stkSub x hm) with z | z
    · exact absurd z (Nat.ne_of_lt (Nat.lt_of_lt_of_le (Heap.lt_size ex) I.ok.above))
    · exact z
  have sub : ∀ x ∈ frs outer,x ∈ frs (cxOf (CXE P w) P w K mg base N qual scope f cdv A outer s₀ H₀ E).stack := fun x hx => by
    show x ∈ frs (_ :: outer)
    rw [frs_cons (L := s₀.heap.objs.size) rfl]
    exact List.mem_cons_of_mem _ hx
  have un1 : Un (frs outer) [] H₀ H' s₀.heap s'.heap := Un.shed I.base un sub out
  have big1 : Big B (frs outer) H' s₀.heap := by
    refine ⟨big.tr,fun b o eb hb => ?_⟩
    obtain ⟨ob,z⟩ := I.base.there b o eb (by intro z; cases z)
    exact big.old b ob z fun hm => hb (out b o eb hm)
  refine ⟨ea,t,cls,H',B,rfl,os.trans I.os,bare,Un.fly un1 big1 fl.1 fl'.1 up fun b hb => ⟨I.ok.frf b hb,fun o eo => ?_⟩,HOk.fly hok big1 fl.1 fl'.1,fl',big1,hE _ _ _ q⟩
  obtain ⟨_,o',eo',nf⟩ := fl'.2.2.1.mem hb
  obtain ⟨_,o2,eo2,nf2⟩ := fl.2.2.1.mem (sub b hb)
  rw [eo] at eo2
  cases eo2
  exact nf2
end
structure ExcC (K : PySem.W.Frag) (mg : Str → Option Value) (x : Str) (C : Addr) : Prop where
  bound : mg x = some (.ref C)
  obj : ∀ h : Heap,K.In h → ∃ bm N nm qn bs hd sn sub ab col dd k0 k1 k2 k3 k5 mN,h.get? C = some (excClassObj nm qn C N bs bm hd sn sub ab col dd k0 k1 k2 k3 k5 "ValueError.__new__") ∧ h.Ns N mN ∧ mN "__init__" = none ∧
    OwnTail h [.type "ValueError",.type "Exception",.type "BaseException",.type "object"] bm
theorem exc_obj {K : PySem.W.Frag} {h : Heap} {C : Addr} {bmB : List Value} {newId : String} (X : K.In h) (q : PySem.W.excIn K C bmB newId = true) :
    ∃ bm N nm qn bs hd sn sub ab col dd k0 k1 k2 k3 k5 mN,h.get? C = some (excClassObj nm qn C N bs bm hd sn sub ab col dd k0 k1 k2 k3 k5 newId) ∧ h.Ns N mN ∧ mN "__init__" = none ∧ OwnTail h bmB bm := by
  unfold PySem.W.excIn at q
  split at q
  next dct cl sls look =>
    split at q
    next C2 bms a0 a1 a2 a3 nid a5 hmro hsls =>
      simp only [Bool.not_eq_true',beq_iff_eq,Bool.and_eq_true] at q
      obtain ⟨⟨⟨⟨⟨q1,q2⟩,q3⟩,q4⟩,q5⟩,q6⟩ := q
      subst q1 q2
      obtain ⟨c1,c2,c3,c4,c5,c6,c7,c8,c9,c10,c11⟩ := cl
      dsimp only at hmro q3 q5 q6
      subst hmro q3
      obtain ⟨lst⟩ := sls
      simp only at hsls
      subst hsls
      exact ⟨bms,c4,c1,c5,c2,c6,c7,c8,c9,c10,dct,a0,a1,a2,a3,a5,_,X _ _ look,.of_isNs (PySem.W.isNs_of_in X q5),PySem.W.nsMap_none_of_in X q5 q6,PySem.W.tail_of_in X q4⟩
    next => cases q
  next => cases q
theorem exc_mk {K : PySem.W.Frag} {mg : Str → Option Value} {h : Heap} {x : Str} {C : Addr} (X : K.In h) (G : h.Ns mainGlobals mg) (a : PySem.W.nsIn K mainGlobals x = some (some (.ref C)))
    (q : PySem.W.excIn K C [.type "ValueError",.type "Exception",.type "BaseException",.type "object"] "ValueError.__new__" = true) : ExcC K mg x C := ⟨PySem.W.mg_of X G a,fun _ Y => exc_obj Y q⟩
section
variable {P : Program} {w : World} {K : PySem.W.Frag} {mg : Str → Option Value} {base : Heap} {N : List Str} {qual : Str} {scope : Scope} {f : Addr} {cdv : Value} {A : Around} {outer : List Env} {s₀ : Shared} {H₀ : Hp} {E : XK}
theorem ps_raise {x : Str} {C : Addr} {np cpos pos : Pos} (O : ExcC K mg x C) (hg : Gl (cxOf (CXE P w) P w K mg base N qual scope f cdv A outer s₀ H₀ E) x) (hdb : (x == ("__debug__" : Str)) = false := by decide) :
    PS (cxOf (CXE P w) P w K mg base N qual scope f cdv A outer s₀ H₀ E) (.Raise (some (.Call (.Name x np) [] [] cpos)) none pos) (fun _ _ H => E (.ref C) none H) := by
  intro pins s σ H D I h
  obtain ⟨bm,N',nm,qn,bs,hd,sn,sub,ab,col,dd,k0,k1,k2,k3,k5,mN,hC,hN,hni,T⟩ := O.obj s.heap I.kIn
  refine wpAny_Raise_call_subT (C := C) (nm := nm) (q := qn) (N := N') (bs := bs) (bm := bm) (hdct := hd) (sn := sn) (sub := sub) (ab := ab) (col := col) (dd := dd) (k0 := k0) (k1 := k1) (k2 := k2) (k3 := k3) (k5 := k5) PySem.F.excBase_ValueError (mN := mN) (T.hasType (by decide +kernel)) (I.ok.hd rfl) rfl hni (ld_glob I hg O.bound ⟨rfl,?_⟩ hdb)
  exact evalArgs_empty ⟨rfl,Nat.zero_le _,hC,hN,T,fun h' e hx => raised I hx h⟩
end
section
variable {X : Cx}
end
structure Fx (P : Program) (w : World) (K : PySem.W.Frag) (mg : Str → Option Value) (base : Heap) (x : Str) (ps : List Str) (k : Nat) (ds : List V) (sp : Sp) : Prop where
  ex : ∃ (f : Addr) (fd : FuncData) (its : List Value),mg x = some (.ref f) ∧ PySem.W.keepIn K (.ref f) = true ∧ Binds K fd ps [] ∧ Binds K fd ps its ∧ Vals ds its ∧ FnOk P w K mg base (CXE P w) k f fd ps sp
theorem Df.fx {P : Program} {w : World} {K : PySem.W.Frag} {mg : Str → Option Value} {base : Heap} {x : Str} {st : Stmt} {N ps : List Str} {k : Nat} {sp : Sp} (D : Df K mg x st) (S : FnScope N ps (defScope st))
    (hbind : ∀ (kV doc pm : Value) (an : Option Addr) (cdv ct : Value) (us : List Value),us.length = ps.length → bindArgs (PySem.W.fnOf x x (defArgs st) (defBody st) (defScope st) .none kV doc pm an cdv ct) ⟨us,[]⟩ = pure (ps.zip us))
    (len : ∀ vs H Q E,sp vs H Q E → vs.length = ps.length)
    (hbody : ∀ (f : Addr) (cdv : Value) (A : Around) (outer : List Env) (s : Shared) (H : Hp) (vs : List V) (Q : VK) (E : XK),Room k (A.deeper (envOfC x (defScope st) s.heap.objs.size f cdv)) → sp vs H Q E →
      ∃ t,PSs (cxOf (CXE P w) P w K mg base N x (defScope st) f cdv A outer s H E) (defBody st) t ∧ t { nx := fun _ H' => Q .non H',rt := Q } (start N vs) H) : Fx P w K mg base x ps (k + 1) [] sp := by
  obtain ⟨f,oc,od,kV,doc,pm,an,cdv,ct,osl,hm,lk,hcd,hk⟩ := D.ex
  have hb : Binds K (PySem.W.fnOf x x (defArgs st) (defBody st) (defScope st) .none kV doc pm an cdv ct) ps [] := .all (hbind kV doc pm an cdv ct)
  exact ⟨⟨f,_,[],hm,hk,hb,hb,.nil,fn_of lk hcd S len fun A outer s H vs Q E hr hsp => hbody f cdv A outer s H vs Q E hr hsp⟩⟩
theorem pe_fx {P : Program} {w : World} {K : PySem.W.Frag} {mg : Str → Option Value} {base : Heap} {N : List Str} {qual : Str} {scope : Scope} {f : Addr} {cdv : Value} {A : Around} {outer : List Env} {s₀ : Shared} {H₀ : Hp} {E : XK}
    {x : Str} {ps : List Str} {k : Nat} {ds : List V} {sp : Sp} {p pos : Pos} {e : Expr} {es : List Expr} {t : TA} (F : Fx P w K mg base x ps k ds sp) (hr : Room k (cxOf (CXE P w) P w K mg base N qual scope f cdv A outer s₀ H₀ E).A) (hg : Gl (cxOf (CXE P w) P w K mg base N qual scope f cdv A outer s₀ H₀ E) x)
    (ha : PA (cxOf (CXE P w) P w K mg base N qual scope f cdv A outer s₀ H₀ E) (e :: es) t)
    (hdb : (x == ("__debug__" : Str)) = false := by decide) (he : starEach (e :: es) (cxOf (CXE P w) P w K mg base N qual scope f cdv A outer s₀ H₀ E).env = (false,eval e (cxOf (CXE P w) P w K mg base N qual scope f cdv A outer s₀ H₀ E).env) :: starEach es (cxOf (CXE P w) P w K mg base N qual scope f cdv A outer s₀ H₀ E).env := by rfl)
    (hpl : (backTo pos (starEach es (cxOf (CXE P w) P w K mg base N qual scope f cdv A outer s₀ H₀ E).env)).any (·.1) = false := by rfl) :
    PE (cxOf (CXE P w) P w K mg base N qual scope f cdv A outer s₀ H₀ E) (.Call (.Name x p) (e :: es) [] pos) (tCall sp [] E t) := by
  obtain ⟨g,fd,its,hm,hk,hb,_,_,G⟩ := F.ex
  exact pe_call G hr hg hm hk hb .nil (pass_on fun _ _ _ z => z) ha hdb he hpl
theorem pass_none {P : Program} {w : World} {X : Cx} : Passes (CXE P w) X E0 := fun _ _ _ _ _ _ _ h => by
  obtain ⟨_,_,_,_,_,_,_,_,_,_,_,_,q⟩ := h
  exact q.elim
theorem pe_fx0 {X : Cx} {x : Str} {ps : List Str} {k : Nat} {ds : List V} {sp : Sp} {p pos : Pos} {e : Expr} {es : List Expr} {t : TA} (F : Fx X.prog X.w X.K X.mg X.base x ps k ds sp) (hr : Room k X.A) (hg : Gl X x) (ha : PA X (e :: es) t)
    (hdb : (x == ("__debug__" : Str)) = false := by decide) (he : starEach (e :: es) X.env = (false,eval e X.env) :: starEach es X.env := by rfl) (hpl : (backTo pos (starEach es X.env)).any (·.1) = false := by rfl) :
    PE X (.Call (.Name x p) (e :: es) [] pos) (tCall sp [] E0 t) := by
  obtain ⟨g,fd,its,hm,hk,hb,_,_,G⟩ := F.ex
  exact pe_call G hr hg hm hk hb .nil pass_none ha hdb he hpl
section
variable {X : Cx}
variable {x fn : Str} {i : Nat} {ps : List Str} {k : Nat} {ds : List V} {sp : Sp} {e : Expr} {es : List Expr} {ta : TA} {px pf cpos pos : Pos}
end
end L2
namespace Sp2
open PySem PySem.Spec L2 Mth Sp1
theorem lowV_inv {H : Hp} {x : V} (h : lowV H x = true) : ∃ p a b,x = .ref p ∧ H p = some (.tup [.int a,.int b]) ∧ Low a b := by
  unfold lowV at h
  split at h
  · split at h
    · rename_i p _ xs e
      unfold lowL at h
      split at h
      · rename_i a b
        unfold lowB at h
        rw [Bool.and_eq_true,decide_eq_true_eq,decide_eq_true_eq] at h
        exact ⟨p,a,b,rfl,e,h.1,h.2⟩
      · cases h
    · cases h
  · cases h
theorem lowV_two {H : Hp} {p : Addr} {a b : Int} (e : H p = some (.tup [.int a,.int b])) : lowV H (.ref p) = lowB a b := by
  simp only [lowV,e,lowL]
theorem low_B {a b : Int} (h : Low a b) : lowB a b = true := by
  unfold lowB
  rw [decide_eq_true h.pos,decide_eq_true h.one]
  rfl
def spLast : Sp := fun vs H Q _ => ∃ (p : Addr) (xs : List V),vs = [.ref p] ∧ H p = some (.lst xs) ∧ Q (.int ((xs.length : Int) - 1)) H
def shareB (a b c d : Int) : Bool := if c * b < a * d then !decide ((c / d + 1) * b < a * 1) else !decide ((a / b + 1) * d < c * 1)
structure Small (a b : Int) : Prop where
  pos : 0 < b
  ba : bits a ≤ 1000
  bb : bits b ≤ 1000
structure LineAt (H : Hp) (l : Addr) (qs : List (Addr × Int × Int)) : Prop where
  lst : H l = some (.lst (qs.map fun q => V.ref q.1))
  crn : ∀ q ∈ qs,H q.1 = some (.tup [.int q.2.1,.int q.2.2]) ∧ bits q.2.1 ≤ 50 ∧ bits q.2.2 ≤ 50
theorem LineAt.mono {H H' : Hp} {l : Addr} {qs : List (Addr × Int × Int)} (L : LineAt H l qs) (s : Same H H') : LineAt H' l qs := ⟨s _ _ L.lst,fun q h => ⟨s _ _ (L.crn q h).1,(L.crn q h).2⟩⟩
theorem lt64s {n : Int} (h0 : -1000 ≤ n) (h1 : n ≤ 1000) : -(2 ^ 64) < n ∧ n < 2 ^ 64 := by
  have e : (2 : Int) ^ 64 = 18446744073709551616 := by decide
  rw [e]
  omega
theorem at_int {ns : List Int} {k : Int} (j : Nat) (e : k = (j : Int)) (h : j < ns.length) : atI (ns.map V.int) k = some (.int ns[j]) := by
  subst e
  exact atI_nat (by rw [List.getElem?_map,List.getElem?_eq_getElem h]; rfl)
theorem at_head (x : V) (xs : List V) : atI (x :: xs) 0 = some x := atI_nat (j := 0) rfl
theorem cut_from {ns : List Int} (k : Nat) : cutV (ns.map V.int) (some (k : Int)) none = (ns.drop k).map V.int := by
  unfold cutV
  rw [HT.sIx_nat,HT.sIx_none,List.length_map,← List.map_drop]
  by_cases h : k ≤ ns.length
  · rw [Nat.min_eq_left h,List.take_of_length_le (by rw [List.length_map,List.length_drop]; exact Nat.le_refl _)]
  · rw [Nat.min_eq_right (by omega),List.drop_eq_nil_of_le (Nat.le_refl _),List.drop_eq_nil_of_le (by omega)]
    simp
theorem bits_small {n : Int} (h0 : -1000 ≤ n) (h1 : n ≤ 1000) : bits n ≤ 10 := by
  refine bits_of (n := 10) ?_
  show _ < 1024
  omega
theorem fl_nn {a b : Int} (hb : 0 < b) (h : 0 ≤ a) : 0 ≤ a / b := Int.ediv_nonneg h (by omega)
end Sp2
namespace L2
open PySem PySem.Spec PyProof.Rows
end L2
namespace L2
open PySem PySem.Spec PyProof.Rows
abbrev Cx.blk (X : Cx) (N' : List Str) (scope : Scope) (cl : List (Str × Addr)) (fp : List Addr) (s₀ : Shared) (H₀ : Hp) : Cx :=
  { X with N := N',s₀ := s₀,H₀ := H₀,env := compEnvC scope cl s₀.heap.objs.size X.env,outer := X.stack,ex := fp,fn := fun _ => false,pn := [],xe := fun _ _ => False }
theorem lookup_mem {α : Type} {y : Str} {c : α} : ∀ {l : List (Str × α)},l.lookup y = some c → (y,c) ∈ l
  | [],h => by simp at h
  | (n,d) :: r,h => by
    rw [List.lookup_cons] at h
    cases e : y == n with
    | true =>
      rw [e] at h
      cases h
      rw [beq_iff_eq.mp e]
      exact List.mem_cons_self
    | false =>
      rw [e] at h
      exact List.mem_cons_of_mem _ (lookup_mem h)
structure CompN (X : Cx) (scope : Scope) (cl : List (Str × Addr)) (x : Str) (fv : List (Str × Nat)) : Prop where
  clos : closureFor scope X.env = pure cl
  kind : scope.kind = .function
  cell : ∀ y ∈ scope.names,y.2 ≠ .cell
  names : ∀ y ∈ scope.names,y.2 = .local → scope.names.lookup y.1 = some .local
  own : scope.names.lookup x = some .local
  cells : ∀ p ∈ cl,X.env.cells.lookup p.1 = some p.2
  has : ((relabel scope X.env).names.all fun q => !(q.2 == .cell || q.2 == .free) || (cl.lookup q.1).isSome) = true
  nd : (x :: fv.map (·.1)).Nodup
  slot : ∀ p ∈ fv,X.N[p.2]? = some p.1 ∧ X.env.kindOf p.1 = some .cell ∧ Vis X.env.scope p.1 ∧ (cl.lookup p.1).isSome = true ∧ ((relabel scope X.env).names.lookup p.1 = some .cell)
  stk : X.stack = X.env :: X.outer ∧ X.env.frame = some X.env.locals
  noex : X.ex = []
def fvs (fv : List (Str × Nat)) (σ : St) : St := fv.map fun p => (σ[p.2]?).join
def tComp (wi : TI) (fv : List (Str × Nat)) (te : TE) : TE := fun σ H Q => wi σ H fun J H1 => ∀ p,H1 p = none → ∃ W : Nat → Nat → List V → Hp → Prop,(∃ m,W 0 m [] (upd H1 p (.lst []))) ∧ ∀ i m acc H2,W i m acc H2 →
  H2 p = some (.lst acc) ∧ acc.length < sizeLine ∧ ((J.stop i H2 ∧ Q (.ref p) H2) ∨ (J.go i H2 ∧ ∀ x H3,J.yld i H2 x H3 → te (some x :: fvs fv σ) H3 fun y H4 => H4 p = some (.lst acc) ∧ ∃ m',m' < m ∧ W (i + 1) m' (acc ++ [y]) (upd H4 p (.lst (acc ++ [y])))))
section
variable {X : Cx} {scope : Scope} {cl : List (Str × Addr)} {x : Str} {fv : List (Str × Nat)} {elt iter : Expr} {px pos : Pos} {te : TE}
theorem blk_ok {pins : List (Addr × Obj)} {σ : St} {H : Hp} {s : Shared} {fp : List Addr} (C : CompN X scope cl x fv) (I : Inv X pins σ H s) (hf : ∀ b ∈ fp,FpOk X pins H b) (ho : ∀ b ∈ fp,b < s.heap.objs.size) : (X.blk (x :: fv.map (·.1)) scope cl fp s H).Ok := by
  have hcl : ∀ y c,cl.lookup y = some c → X.env.cells.lookup y = some c := fun y c h => C.cells _ (lookup_mem h)
  have old : ∀ b ∈ fp,X.s₀.heap.objs.size ≤ b := fun b hb => by
    rcases (hf b hb).2.2.2.1 with z | z
    · rw [C.noex] at z
      cases z
    · exact z
  refine ⟨I.ok.mod,by show (relabel scope X.env).kind = _; exact C.kind,I.ok.glob,I.ok.blt,Nat.le_refl _,fun y z c h1 h2 => I.ok.inj y z c (hcl y c h1) (hcl z c h2),fun y hy => ?_,(fun y c h => by cases h),I.ok.hd,I.ok.frames,.inl rfl,fun b hb => ?_,fun b o e => I.bs b o e,Nat.le_trans I.ok.bsz I.sz,fun b o e hb => ?_,fun b hb hm => ?_,I.stack,I.stkFree⟩
  · have q := C.has
    rw [List.all_eq_true] at q
    have hm : ∃ k,(y,k) ∈ (relabel scope X.env).names ∧ (k = .cell ∨ k = .free) := by
      rcases hy with hy | hy
      · exact ⟨_,lookup_mem hy,.inl rfl⟩
      · exact ⟨_,lookup_mem hy,.inr rfl⟩
    obtain ⟨k,hk,hk2⟩ := hm
    have q2 := q _ hk
    have q3 : (cl.lookup y).isSome = true := by
      rcases hk2 with rfl | rfl
      · simpa using q2
      · simpa using q2
    exact Option.isSome_iff_exists.mp q3
  · obtain ⟨f0,f1,f2,f3,f4,f5⟩ := hf b hb
    refine ⟨?_,fun y c h => f4 y c (hcl y c h)⟩
    exact Nat.ne_of_lt (ho b hb)
  · have z := Heap.lt_size e
    have z2 := old b hb
    exact absurd (Nat.lt_of_lt_of_le z (Nat.le_trans I.ok.bsz z2)) (Nat.lt_irrefl _)
  · obtain ⟨f0,f1,f2,f3,f4,f5⟩ := hf b hb
    rcases List.mem_cons.mp (I.stkSub b hm) with z | z
    · exact f1 z
    · exact f2 z
theorem blk_inv {pins : List (Addr × Obj)} {σ : St} {H : Hp} {s s4 : Shared} {fp : List Addr} (C : CompN X scope cl x fv) (I : Inv X pins σ H s) (hf : ∀ b ∈ fp,FpOk X pins H b) (ho : ∀ b ∈ fp,b < s.heap.objs.size)
    (hs : s4.os = s.os ∧ s4.gens = s.gens) (ns : s4.heap.Ns s.heap.objs.size fun _ => none) (kp : ∀ b o,s.heap.get? b = some o → s4.heap.get? b = some o) :
    Inv (X.blk (x :: fv.map (·.1)) scope cl fp s H) [] (none :: fvs fv σ) H s4 := by
  have hcl : ∀ y c,cl.lookup y = some c → X.env.cells.lookup y = some c := fun y c h => C.cells _ (lookup_mem h)
  refine ⟨blk_ok C I hf ho,hs.1,by rw [hs.2]; exact I.bare,Un.kept kp,⟨_,ns,fun i y v e1 e2 e3 => ?_⟩,fun y c h => ?_,I.hok.fresh (Nat.le_refl _),fun y c h => I.freeC y c (hcl y c h),fun p hp => by simp at hp,I.hok.kept kp,by simp [fvs]⟩
  · cases i with
    | zero => simp at e2
    | succ j =>
      have e1' : (fv.map (·.1))[j]? = some y := by simpa using e1
      have e2' : (fvs fv σ)[j]? = some (some v) := by simpa using e2
      rw [List.getElem?_map] at e1'
      unfold fvs at e2'
      rw [List.getElem?_map] at e2'
      cases hq : fv[j]? with
      | none =>
        rw [hq] at e1'
        cases e1'
      | some q =>
        rw [hq] at e1' e2'
        have ey : q.1 = y := Option.some.inj e1'
        have ev : (σ[q.2]?).join = some v := Option.some.inj e2'
        have hm : q ∈ fv := List.mem_of_getElem? hq
        obtain ⟨s1,s2,s3,s4',s5⟩ := C.slot q hm
        have ev2 : σ[q.2]? = some (some v) := by
          cases hz : σ[q.2]? with
          | none =>
            rw [hz] at ev
            cases ev
          | some z =>
            rw [hz] at ev
            have ev' : z = some v := ev
            rw [ev']
        obtain ⟨m,hn,hl⟩ := I.loc
        obtain ⟨u,r,lk⟩ := hl q.2 q.1 v s1 ev2 s3
        obtain ⟨c,hc⟩ := Option.isSome_iff_exists.mp s4'
        refine ⟨u,r,.inr ⟨.inl (by rw [← ey]; exact s5),c,by rw [← ey]; exact hc,?_⟩⟩
        rcases lk with ⟨k,_⟩ | ⟨_,c',hc',z⟩
        · rw [s2] at k
          cases k
        · rw [hcl _ _ hc] at hc'
          cases hc'
          obtain ⟨o,ho',hd⟩ := z
          exact ⟨o,kp _ _ ho',hd⟩
  · obtain ⟨v,o,ho',hd⟩ := I.cell y c (hcl y c h)
    exact ⟨v,o,kp _ _ ho',hd⟩
theorem blk_run {pins : List (Addr × Obj)} {σ : St} {H2 : Hp} {s2 : Shared} {it : Addr} {fp : List Addr} {tn : Nat → Heap → Prop} {J : It} {RR : Value → Addr → Result → Shared → Prop} {E : Value → Shared → Prop} {Qf : V → Hp → Prop}
    (hcalm : X.calm = true) (C : CompN X scope cl x fv) (I2 : Inv X pins σ H2 s2) (T : Turn X.prog X.w X.K (.Name x px) J fp it tn) (st : tn 0 s2.heap) (f2 : ∀ b ∈ fp,FpOk X pins H2 b)
    (rd : ∀ p,H2 p = none → ∃ W : Nat → Nat → List V → Hp → Prop,(∃ m,W 0 m [] (upd H2 p (.lst []))) ∧ ∀ i m acc H2,W i m acc H2 →
      H2 p = some (.lst acc) ∧ acc.length < sizeLine ∧ ((J.stop i H2 ∧ Qf (.ref p) H2) ∨ (J.go i H2 ∧ ∀ x H3,J.yld i H2 x H3 → te (some x :: fvs fv σ) H3 fun y H4 => H4 p = some (.lst acc) ∧ ∃ m',m' < m ∧ W (i + 1) m' (acc ++ [y]) (upd H4 p (.lst (acc ++ [y]))))))
    (he : ∀ (s₀ : Shared) (H₀ : Hp),PE (X.blk (x :: fv.map (·.1)) scope cl fp s₀ H₀) elt te)
    (hRR : ∀ (p C : Addr) (H' : Hp) (s' : Shared),(∃ m,s'.heap.Ns C m) → C ≠ X.env.locals → H' C = none → X.s₀.heap.objs.size ≤ C → (∀ y c,X.env.cells.lookup y = some c → c ≠ C) → (∀ q ∈ X.pn ++ pins,q.1 ≠ C) → Inv X pins σ H' s' → Qf (.ref p) H' → RR (.ref p) C (.ok .next) s') :
    wpAny (model X.prog X.w) X.A (newList []) (fun acc s₃ => wpAny (model X.prog X.w) X.A (newFunctionEnv scope X.env.globals cl [] X.env.qual none .none (some X.env)) (fun cenv s₄ =>
      codeAny (model X.prog X.w) X.A (.compStart (.ListComp elt [⟨.Name x px,iter,[],0⟩] scope pos) 0 (.ref it) acc { cenv with scope := relabel scope X.env }) (RR acc cenv.locals) s₄) E s₃) E s2 := by
  refine wpAny_newObj_type ?_
  have hfresh := I2.fresh
  have I3 : Inv X pins σ (upd H2 s2.heap.objs.size (.lst [])) { s2 with heap := s2.heap.push { cls := .type "list",data := .seq ([] : List Value).toArray } } :=
    I2.laid (t' := s2.toks) (fun b u q => Heap.get?_push_of_some _ q) (Nat.le_refl _) ⟨Nat.zero_le _,[],0,.nil,Heap.get?_push_size _ rfl⟩
  generalize hs3 : ({ s2 with heap := s2.heap.push { cls := .type "list",data := .seq ([] : List Value).toArray } } : Shared) = s3 at I3 ⊢
  have hp3 : s2.heap.objs.size < s3.heap.objs.size := by rw [← hs3]; exact Nat.lt_of_lt_of_le (Nat.lt_succ_self _) (Nat.le_of_eq (Heap.size_push _ _).symm)
  have k23 : ∀ b o,s2.heap.get? b = some o → s3.heap.get? b = some o := fun b o e => by rw [← hs3]; exact Heap.get?_push_of_some _ e
  have fpo : ∀ b ∈ fp,b < s2.heap.objs.size := fun b hb => by
    obtain ⟨o,e,_⟩ := T.obj 0 _ st b hb
    exact Heap.lt_size e
  have f3 : ∀ b ∈ fp,FpOk X pins (upd H2 s2.heap.objs.size (.lst [])) b := fun b hb => ⟨by rw [upd_ne (Nat.ne_of_lt (fpo b hb))]; exact (f2 b hb).1,(f2 b hb).2⟩
  refine wpAny_newFunctionEnv C.cell (by intro y hy; simp at hy) (fun h1 hns1 hsb1 => ?_) C.kind
  have kp : ∀ b o,s3.heap.get? b = some o → h1.get? b = some o := fun b o e => (hsb1.2 b (Nat.ne_of_lt (Heap.lt_size e))).trans (Heap.get?_push_of_some _ e)
  have I4 := blk_inv (s4 := { s3 with heap := h1,toks := s3.toks + ([] : List (Str × Value)).length }) C I3 f3 (fun b hb => Nat.lt_trans (fpo b hb) hp3) ⟨rfl,rfl⟩ hns1 kp
  have st4 : tn 0 h1 := T.keep 0 _ _ st fun b _ o e => kp b o (k23 b o e)
  obtain ⟨W,⟨m0,w0⟩,step⟩ := rd _ hfresh
  have loop : codeAny (model X.prog X.w) X.A (.compLoop (.ListComp elt [⟨.Name x px,iter,[],0⟩] scope pos) 0 (.ref it) (.ref s2.heap.objs.size) (compEnvC scope cl s3.heap.objs.size X.env)) (RR (.ref s2.heap.objs.size) s3.heap.objs.size)
      { s3 with heap := h1,toks := s3.toks + ([] : List (Str × Value)).length } := by
    refine codeAny_compLoop_list (fun n s => ∃ i acc σv H',Inv (X.blk (x :: fv.map (·.1)) scope cl fp s3 (upd H2 s2.heap.objs.size (.lst []))) [] (σv :: fvs fv σ) H' s ∧ tn i s.heap ∧ (∀ b ∈ fp,H' b = none) ∧ W i n acc H') ?_ m0 ⟨0,[],none,_,I4,st4,fun b hb => (f3 b hb).1,w0⟩
    rintro n s ⟨i,acc,σv,H',I',st',fr',w'⟩
    obtain ⟨hp,hlen,alt⟩ := step i n acc H' w'
    have fpk : ∀ {H5 : Hp},(∀ b ∈ fp,H5 b = none) → ∀ b ∈ fp,FpOk (X.blk (x :: fv.map (·.1)) scope cl fp s3 (upd H2 s2.heap.objs.size (.lst []))) [] H5 b := fun h5 b hb =>
      ⟨h5 b hb,(I'.ok.exf b hb).1,I'.ok.exfs b hb,.inl hb,fun y c e => (I'.ok.exf b hb).2 y c e,fun q hq => by simp at hq⟩
    rcases alt with ⟨stop,qf⟩ | ⟨go,turn⟩
    · refine wpAny_mono (T.done (X.blk (x :: fv.map (·.1)) scope cl fp s3 (upd H2 s2.heap.objs.size (.lst []))) rfl rfl rfl hcalm i [] s _ H' (fun _ _ => False) I' (fpk fr') st' stop) (fun r s5 ⟨hr,I5⟩ => ?_) fun _ _ z => False.elim z
      subst hr
      refine hRR _ _ H' s5 (let ⟨m,hn,_⟩ := I5.loc; ⟨m,hn⟩) (Nat.ne_of_gt I3.lt) I5.free I3.sz (fun y c e => ?_) (fun q hq => ?_) ?_ qf
      · obtain ⟨v,z⟩ := I3.cell y c e
        exact Nat.ne_of_lt z.lt
      · exact Nat.ne_of_lt (Heap.lt_size (I3.pin q hq).1)
      · exact I3.call' (s' := s5) (ch := fp) I5.os I5.base I5.hok I5.bare fun b hb => ⟨(f2 b hb).2.2.2.1,(f2 b hb).2.1,(f2 b hb).2.2.2.2.1,(f2 b hb).2.2.2.2.2⟩
    · refine wpAny_mono (T.item (X.blk (x :: fv.map (·.1)) scope cl fp s3 (upd H2 s2.heap.objs.size (.lst []))) rfl rfl rfl hcalm i [] s _ H' (fun _ _ => False) I' (fpk fr') st' go) (fun r s5 ⟨u,hr,h5⟩ => ?_) fun _ _ z => False.elim z
      subst hr
      have e5 : assign (.Name x px) (compEnvC scope cl s3.heap.objs.size X.env) u = (letOwnedTupleGo (.Name x px) (.ref it) u >>= fun _ => assign (.Name x px) (compEnvC scope cl s3.heap.objs.size X.env) u) := by
        rw [show letOwnedTupleGo (.Name x px) (.ref it) u = pure () from rfl]
        rfl
      show wpAny _ _ (assign (.Name x px) (compEnvC scope cl s3.heap.objs.size X.env) u) _ _ _
      rw [e5]
      refine wpAny_bind (wpAny_mono h5 (fun _ s6 ⟨y,H6,I6,r6,y6,st6,fr6⟩ => ?_) fun _ _ z => False.elim z)
      have I6' := I6.pinned (fpk fr6) (T.obj _ _ st6)
      have lx : (relabel scope X.env).names.lookup x = some .local := lookup_relabel_local C.own
      refine wpAny_mono (pg_name (X := X.blk (x :: fv.map (·.1)) scope cl fp s3 (upd H2 s2.heap.objs.size (.lst []))) (i := 0) C.nd rfl (.inl lx) (.inr lx) _ s6 _ H6 y u (fun σ7 H7 => σ7 = some y :: fvs fv σ ∧ H7 = H6) I6' r6 ⟨rfl,rfl⟩) (fun _ s7 ⟨σ7,H7,I7,e7,e7'⟩ => ?_) fun _ _ z => False.elim z
      subst e7 e7'
      refine wpAny_mono (he s3 _ _ s7 _ _ _ I7 (turn y _ y6)) (fun v8 s8 ⟨y8,H8,I8,r8,q8,m',hm',w8⟩ => ?_) fun _ _ z => False.elim z
      refine wpAny_mono (mt_append (X := X.blk (x :: fv.map (·.1)) scope cl fp s3 (upd H2 s2.heap.objs.size (.lst []))) _ s8 _ H8 (.ref s2.heap.objs.size) [y8] (.ref s2.heap.objs.size) [v8] (fun _ H9 => H9 = upd H8 s2.heap.objs.size (.lst (acc ++ [y8]))) I8 rfl (.cons r8 .nil) ⟨_,acc,y8,rfl,rfl,q8,hlen,rfl⟩) (fun _ s9 ⟨_,H9,I9,_,e9⟩ => ?_) fun _ _ z => False.elim z
      subst e9
      refine ⟨m',hm',i + 1,acc ++ [y8],some y,_,I9.unpinned,T.keep _ _ _ st6 fun b hb o e => (I9.pin (b,o) (List.mem_append_right _ (List.mem_append_right _ (mem_pinsAt hb e)))).1,fun b hb => ?_,w8⟩
      obtain ⟨o,e,d⟩ := T.obj _ _ st6 b hb
      exact (I9.pin (b,o) (List.mem_append_right _ (List.mem_append_right _ (mem_pinsAt hb e)))).2.1
  exact codeAny_compStart_list loop (T.self _ 0 _ _ _ st4 loop)
theorem pe_comp {wi : TI} (hcalm : X.calm = true) (C : CompN X scope cl x fv) (hi : PI X (.Name x px) iter wi) (he : ∀ (fp : List Addr) (s₀ : Shared) (H₀ : Hp),PE (X.blk (x :: fv.map (·.1)) scope cl fp s₀ H₀) elt te)
    (hs : ∀ v,foldedSetIterable iter X.env v = pure v := by intro _; rfl) : PE X (.ListComp elt [⟨.Name x px,iter,[],0⟩] scope pos) (tComp wi fv te) := by
  intro pins s σ H Q I h
  rw [eval_ListComp]
  refine wpAny_comprehension_free (use := none) rfl hs C.clos C.kind C.names (wpAny_mono (hi pins s σ H _ I h) (fun v s1 h1 => wpAny_mono h1 (fun itv s2 h2 => ?_) fun _ _ z => z) fun _ _ z => z)
  obtain ⟨it,fp,tn,J,H2,rfl,I2,T,st2,f2,rd⟩ := h2
  refine blk_run (Qf := Q) hcalm C I2 T st2 f2 rd (he fp) fun p D H' s' ns nL nH n0 nC nP I8 q => ?_
  obtain ⟨m,hn⟩ := ns
  exact ⟨m,hn,fun h'' sb => ⟨.ref p,H',I8.turned (t' := s'.toks) (fun b o hb e => (sb.2 b hb).trans e) nH nL (.inr n0) nC nP,rfl,q⟩⟩
theorem ps_setComp {wi : TI} {y : Str} {j : Nat} {py spos : Pos} (hcalm : X.calm = true) (C : CompN X scope cl x fv) (hN : X.N.Nodup) (hj : X.N[j]? = some y) (hy : X.env.scope.names.lookup y = some .local) (hi : PI X (.Name x px) iter wi) (he : ∀ (fp : List Addr) (s₀ : Shared) (H₀ : Hp),PE (X.blk (x :: fv.map (·.1)) scope cl fp s₀ H₀) elt te)
    (hsw : swapsWith (.ListComp elt [⟨.Name x px,iter,[],0⟩] scope pos) (some (.Name y py)) spos.line X.env = pure true := by rfl)
    (hs : ∀ v,foldedSetIterable iter X.env v = pure v := by intro _; rfl) : PS X (.Assign [.Name y py] (.ListComp elt [⟨.Name x px,iter,[],0⟩] scope pos) spos) (tAsg (tComp wi fv te) (gName j)) := by
  intro pins s σ H D I h
  rw [exec_Assign_Name_used _ _ _ _ hsw]
  refine wpAny_bind (wpAny_standAt (wpAny_bind ?_))
  show wpAny _ _ (do let _ ← comprehension (.ListComp elt [⟨.Name x px,iter,[],0⟩] scope pos) scope X.env _ (newList []) false (eval iter X.env) (some (assign (.Name y py) X.env))) _ _ s
  refine wpAny_bind (wpAny_mono (wpAny_comprehension_free (use := some (assign (.Name y py) X.env)) (Q := fun _ s' => SP X pins D .next s') rfl hs C.clos C.kind C.names
    (wpAny_mono (hi pins s σ H _ I h) (fun v s1 h1 => wpAny_mono h1 (fun itv s2 h2 => ?_) fun _ _ z => z) fun _ _ z => z)) (fun _ s' hq => wpAny_pure (wpAny_pure hq)) fun _ _ z => z)
  obtain ⟨it,fp,tn,J,H2,rfl,I2,T,st2,f2,rd⟩ := h2
  refine blk_run (Qf := fun v H' => gName j v σ H' D.nx) hcalm C I2 T st2 f2 rd (he fp) fun p D' H' s' ns nL nH n0 nC nP I8 q => ?_
  obtain ⟨m,hn⟩ := ns
  show wpAny _ _ (assign (.Name y py) X.env (.ref p)) _ _ _
  refine wpAny_assign_Name (store_ok2 I8 hN hj (.inl hy) (v := .ref p) rfl (fun s9 I9 ⟨a,sb,ha⟩ => ?_) (.inr hy))
  have aD : D' ≠ a := by
    rintro rfl
    rcases ha with z | z
    · exact nL z
    · exact nC y _ z rfl
  exact ⟨m,hn.sameBut sb aD,fun h'' sb2 => ⟨_,H',I9.turned (t' := s9.toks) (fun b o hb e => (sb2.2 b hb).trans e) nH nL (.inr n0) nC nP,q⟩⟩
end
end L2
namespace L2
open PySem PySem.Spec PyProof.Rows
def setScope (s : Stmt) : Scope := match s with
  | .Assign _ (.ListComp _ _ sc _) _ => sc
  | _ => { kind := .function,names := [],isGenerator := false,isCoroutine := false }
end L2
namespace L2
open PySem PySem.Spec PyProof.Rows
theorem ix_tupK {X : Cx} {K : PySem.W.Frag} (h : X.K = K) : IxR X (rIxT K) := h ▸ ix_tup
end L2
namespace L2
open PySem PySem.Spec PyProof.Rows
theorem comp_list {K : PySem.W.Frag} {a : Addr} {xs : List V} {fv : List (Str × Nat)} {te : TE} {σ : St} {H1 : Hp} {Qp : Hp → Prop} {l : Addr} (Pv : Nat → List V → Hp → Prop) (h0 : Pv 0 [] (upd H1 l (.lst []))) (hp : ∀ i acc H2,i ≤ xs.length → Pv i acc H2 → SqL K H2 a xs ∧ H2 l = some (.lst acc) ∧ acc.length < sizeLine)
    (hs : ∀ i x acc H2 (Kc : VK),xs[i]? = some x → Pv i acc H2 → (∀ y H4,H4 l = some (.lst acc) → Pv (i + 1) (acc ++ [y]) (upd H4 l (.lst (acc ++ [y]))) → Kc y H4) → te (some x :: fvs fv σ) H2 Kc) (hd : ∀ acc H2,Pv xs.length acc H2 → Qp H2) :
    ∃ W : Nat → Nat → List V → Hp → Prop,(∃ m,W 0 m [] (upd H1 l (.lst []))) ∧ ∀ i m acc H2,W i m acc H2 →
      H2 l = some (.lst acc) ∧ acc.length < sizeLine ∧ (((Itl K a).stop i H2 ∧ Qp H2) ∨ ((Itl K a).go i H2 ∧ ∀ x H3,(Itl K a).yld i H2 x H3 → te (some x :: fvs fv σ) H3 fun y H4 => H4 l = some (.lst acc) ∧ ∃ m',m' < m ∧ W (i + 1) m' (acc ++ [y]) (upd H4 l (.lst (acc ++ [y]))))) := by
  refine ⟨fun i m acc H2 => m = xs.length - i ∧ i ≤ xs.length ∧ Pv i acc H2,⟨xs.length,by simp,Nat.zero_le _,h0⟩,?_⟩
  rintro i m acc H2 ⟨rfl,hi,p⟩
  obtain ⟨q1,q2,q3⟩ := hp i acc H2 hi p
  refine ⟨q2,q3,?_⟩
  by_cases hlt : i < xs.length
  · refine .inr ⟨⟨xs,xs[i],q1,List.getElem?_eq_getElem hlt⟩,fun x H3 y => ?_⟩
    obtain ⟨e1,e2⟩ := y
    subst e1
    exact hs i x acc _ _ (e2 xs q1) p fun y H4 z1 z2 => ⟨z1,xs.length - (i + 1),by omega,rfl,hlt,z2⟩
  · have e : i = xs.length := by omega
    subst e
    exact .inl ⟨⟨xs,q1,Nat.le_refl _⟩,hd acc H2 p⟩
end L2
namespace L2
open PySem PySem.Spec PyProof.Rows
theorem val_get {xs : List V} {us : List Value} {j : Nat} (r : Vals xs us) (h : j < us.length) : ∃ a,xs[j]? = some a ∧ RelV a us[j] := by
  have hl := r.length
  have hj : j < xs.length := by omega
  obtain ⟨u,e,q⟩ := r.get (i := j) (x := xs[j]) (List.getElem?_eq_getElem hj)
  rw [List.getElem?_eq_getElem h] at e
  cases e
  exact ⟨xs[j],List.getElem?_eq_getElem hj,q⟩
section
variable {X : Cx} {pins : List (Addr × Obj)} {σ : St} {H : Hp} {s : Shared}
end
end L2
namespace L2
open PySem
theorem Room.units10 {k : Nat} {A : Around} (r : Room k A) : A.units + 10 < cLine := by have := r.un; omega
end L2
namespace L2
open PySem PySem.Spec PyProof.Rows
def CPX (i j : Int) : Prop := 0 ≤ j ∧ (Builtin.Int.intBits i : Int) * j ≤ 2 ^ 27
theorem op_powX {X : Cx} : OpR X (binaryOp .Pow) (rI CPX fun i j => .int (i ^ j.toNat)) := opI fun _ _ _ _ _ _ _ hc q => pow_int hc.1 hc.2 q
theorem cpx2 {i : Int} {n : Nat} (h : bits i ≤ n) (hn : n ≤ 100000) : CPX i 2 := ⟨by decide,by
  have e : (2 : Int) ^ 27 = 134217728 := by decide
  have h' : Builtin.Int.intBits i ≤ n := h
  rw [e]
  omega⟩
end L2
namespace Sp3
open PySem PySem.Spec L2 Mth Sp1 Sp2
structure Fr2 (H : Hp) (p : Addr) (a b : Int) (n : Nat) : Prop where
  at_ : H p = some (.tup [.int a,.int b])
  low : Low a b
  ba : bits a ≤ n
  bb : bits b ≤ n
theorem Fr2.mono {H H' : Hp} {p : Addr} {a b : Int} {n : Nat} (f : Fr2 H p a b n) (s : Same H H') : Fr2 H' p a b n := ⟨s _ _ f.at_,f.low,f.ba,f.bb⟩
def numAt (x y t b : Int) : Int := x * b + (y - x) * (t % b)
def side0 (qs : List (Addr × Int × Int)) (t b : Int) : Int × Int := (qs.getD (t / b).toNat (0,0,0)).2
def side1 (qs : List (Addr × Int × Int)) (t b : Int) : Int × Int := (qs.getD (min ((t / b).toNat + 1) (qs.length - 1)) (0,0,0)).2
def ptX (qs : List (Addr × Int × Int)) (t b : Int) : Int := numAt (side0 qs t b).1 (side1 qs t b).1 t b
def ptY (qs : List (Addr × Int × Int)) (t b : Int) : Int := numAt (side0 qs t b).2 (side1 qs t b).2 t b
end Sp3
namespace Sp3
open PySem PySem.Spec L2 Mth Sp1 Sp2
def sqN (X Y b X' Y' b' : Int) : Int := (X' * b - X * b') * (X' * b - X * b') + (Y' * b - Y * b') * (Y' * b - Y * b')
def sqD (b b' : Int) : Int := (b * b') * (b * b')
structure Plc (H : Hp) (p : Addr) (t b n : Int) : Prop where
  at_ : H p = some (.tup [.int t,.int b])
  low : Low t b
  lo : 0 ≤ t
  hi : t ≤ n * b
  bt : bits t ≤ 120
  bb : bits b ≤ 120
theorem Plc.mono {H H' : Hp} {p : Addr} {t b n : Int} (f : Plc H p t b n) (s : Same H H') : Plc H' p t b n := ⟨s _ _ f.at_,f.low,f.lo,f.hi,f.bt,f.bb⟩
abbrev Crn := List (Addr × Int × Int)
def sqF (qs : Crn) (t b : Int) (qs' : Crn) (t' b' : Int) : Int := sqN (ptX qs t b) (ptY qs t b) b (ptX qs' t' b') (ptY qs' t' b') b'
def lst_ (qs : Crn) : Int := (qs.length : Int) - 1
def spLPt : Sp := fun vs H Q _ => ∃ (l p : Addr) (qs : Crn) (t b : Int),vs = [.ref l,.ref p] ∧ LineAt H l qs ∧ (1 ≤ qs.length ∧ qs.length ≤ 20) ∧ Plc H p t b (lst_ qs) ∧
  ∀ (r : Addr) (H' : Hp),H' r = some (.tup [.int (ptX qs t b),.int (ptY qs t b),.int b]) → Same H H' → Q (.ref r) H'
theorem crn_bits {H : Hp} {l : Addr} {qs : Crn} (L : LineAt H l qs) (j : Nat) : bits (qs.getD j (0,0,0)).2.1 ≤ 50 ∧ bits (qs.getD j (0,0,0)).2.2 ≤ 50 := by
  rw [List.getD_eq_getElem?_getD]
  by_cases h : j < qs.length
  · rw [List.getElem?_eq_getElem h]
    exact (L.crn _ (List.getElem_mem h)).2
  · rw [List.getElem?_eq_none (by omega)]
    exact ⟨by decide,by decide⟩
theorem num_bits {x y t b : Int} (hb : 0 < b) (bx : bits x ≤ 50) (by' : bits y ≤ 50) (bb : bits b ≤ 120) : bits (numAt x y t b) ≤ 182 := by
  have br : bits (t % b) ≤ 120 := bits_range (Int.emod_nonneg _ (by omega)) (Int.le_of_lt (Int.emod_lt_of_pos _ hb)) bb
  exact bits_le (bits_add (n := 171) (bits_le (bits_mul bx bb) (by decide)) (bits_mul (bits_sub by' bx) br)) (by decide)
theorem pt_bits {H : Hp} {l : Addr} {qs : Crn} {t b : Int} (L : LineAt H l qs) (hb : 0 < b) (bb : bits b ≤ 120) : bits (ptX qs t b) ≤ 182 ∧ bits (ptY qs t b) ≤ 182 :=
  ⟨num_bits hb (crn_bits L _).1 (crn_bits L _).1 bb,num_bits hb (crn_bits L _).2 (crn_bits L _).2 bb⟩
end Sp3
namespace PySem
open Sem (wp)
section
variable {prog : Program} {w : World} {A : Around} {E : Value → Shared → Prop} {h : Heap} {g : Array GenState} {d : Drawn} {t : Nat} {os : OsState} {a : Addr} {o : Obj}
  {nm q : Str} {C N : Addr} {bs bm : List Value} {hdct : Bool} {sn : List Str} {sub : List Value} {ab : Bool} {col : Option Bool} {dd : Option Addr} {k0 k1 k2 k3 k5 : Option Value} {newId : String}
end
end PySem
namespace L2
open PySem PySem.Spec PyProof.Rows
section
variable {X : Cx}
end
section
variable {X : Cx} {pins : List (Addr × Obj)} {σ : St} {H : Hp} {s : Shared}
theorem Inv.track {a : Addr} {o : HO} (I : Inv X pins σ H s) (hn : H a = none) (h0 : X.s₀.heap.get? a = none) (hl : a ≠ X.env.locals) (hc : ∀ x c,X.env.cells.lookup x = some c → c ≠ a) (hp : ∀ p ∈ X.pn ++ pins,p.1 ≠ a)
    (ho : ObjOk X.prog X.w (upd H a o) s.heap a o) : Inv X pins σ (upd H a o) s where
  ok := I.ok
  os := I.os
  bare := I.bare
  base := {
    keep := I.base.keep
    slot := I.base.slot
    free := fun b ob e n hx => by
      rw [upd_ne (fun z => by subst z; rw [h0] at e; cases e)]
      exact I.base.free b ob e n hx
    there := I.base.there
    tups := fun b xs q => by
      have z := I.base.tups b xs q
      rw [upd_ne (ne_of_none z hn)]
      exact z
    frzs := fun b ob u q => by
      have z := I.base.frzs b ob u q
      rw [upd_ne (ne_of_none z hn)]
      exact z
    tbls := fun b ps q => by
      obtain ⟨m,z⟩ := I.base.tbls b ps q
      exact ⟨m,by rw [upd_ne (ne_of_none z hn)]; exact z⟩ }
  loc := I.loc
  cell := I.cell
  free := by rw [upd_ne (Ne.symm hl)]; exact I.free
  freeC := fun x c e => by rw [upd_ne (hc x c e)]; exact I.freeC x c e
  pin := fun p m => by
    obtain ⟨p1,p2,p3⟩ := I.pin p m
    exact ⟨p1,by rw [upd_ne (hp p m)]; exact p2,p3⟩
  hok := fun b u q => by
    by_cases hb : b = a
    · subst hb
      rw [upd_same] at q
      cases q
      exact ho
    · rw [upd_ne hb] at q
      exact (I.hok b u q).stay (fun _ _ _ r => r) (fun c r => by rw [upd_ne (ne_of_none r hn)]; exact r) fun c xs r => by rw [upd_ne (ne_of_none r hn)]; exact r
  len := I.len
end
section
variable {X : Cx}
end
end L2
namespace Sp8
open PySem PySem.Spec L2 Mth Sp1 Sp2 Sp3
end Sp8
namespace L2
open PySem PySem.Spec PyProof.Rows
end L2
namespace Sp24
open PySem PySem.Spec L2 Mth Sp1 Sp2 Sp3 Sp8
def sg (n : Int) : Int := if n > 0 then 1 else if n < 0 then -1 else 0
def spSign : Sp := fun vs H Q _ => ∃ n : Int,vs = [.int n] ∧ Q (.int (sg n)) H
structure Cn (H : Hp) (p : Addr) (x y : Int) : Prop where
  at_ : H p = some (.tup [.int x,.int y])
  bx : bits x ≤ 50
  by_ : bits y ≤ 50
structure Sq (H : Hp) (p : Addr) (a b : Int) : Prop where
  at_ : H p = some (.tup [.int a,.int b])
  ba : bits a ≤ 230
  bb : bits b ≤ 130
theorem Sq.mono {H H' : Hp} {p : Addr} {x y : Int} (c : Sq H p x y) (s : Same H H') : Sq H' p x y := ⟨s _ _ c.at_,c.ba,c.bb⟩
def lo (x y x' y' a b : Int) : Int := sg (a - ((x' - x) * (x' - x) + (y' - y) * (y' - y)) * b)
def spLo : Sp := fun vs H Q _ => ∃ (p q r : Addr) (x y x' y' a b : Int),vs = [.ref p,.ref q,.ref r] ∧ Cn H p x y ∧ Cn H q x' y' ∧ Sq H r a b ∧ Q (.int (lo x y x' y' a b)) H
def sqV (H : Hp) : V → Bool
  | .ref p => match H p with
    | some (.tup [.int a,.int b]) => lowB a b && !decide (a < 0)
    | _ => false
  | _ => false
def spLookS (C : Addr) : Sp := fun vs H Q E => ∃ x,vs = [x] ∧ Thing H x ∧ (sqV H x = false → E (.ref C) none H) ∧ (sqV H x = true → Q .non H)
theorem sqV_low {H : Hp} {x : V} (h : lowV H x = false) : sqV H x = false := by
  unfold sqV
  split
  · split
    · rename_i p _ a b e
      rw [lowV_two e] at h
      rw [h,Bool.false_and]
    · rfl
  · rfl
theorem sqV_two {H : Hp} {p : Addr} {a b : Int} (e : H p = some (.tup [.int a,.int b])) : sqV H (.ref p) = (lowB a b && !decide (a < 0)) := by
  simp only [sqV,e]
end Sp24
namespace L2
open PySem PySem.Spec PyProof.Rows
theorem bt_all : bootBuiltins "all" = some (.builtin "all") := by decide +kernel
theorem bl_at {bs : List Bool} {us : List Value} {i : Nat} {v : Value} (r : Vals (bs.map V.bl) us) (h : us[i]? = some v) : ∃ b,bs[i]? = some b ∧ v = .bool b := by
  have hl := r.length
  rw [List.length_map] at hl
  have hi : i < us.length := (List.getElem?_eq_some_iff.mp h).1
  have hj : i < bs.length := by omega
  obtain ⟨u,e,q⟩ := r.get (i := i) (x := .bl bs[i]) (by rw [List.getElem?_map,List.getElem?_eq_getElem hj]; rfl)
  rw [h] at e
  cases e
  exact ⟨bs[i],List.getElem?_eq_getElem hj,q⟩
theorem all_range (bs : List Bool) : ((List.range bs.length).all fun i => (bs[i]?).getD true) = bs.all id := by
  rw [Bool.eq_iff_iff]
  simp only [List.all_eq_true,List.mem_range,id]
  constructor
  · intro h b hb
    obtain ⟨i,hi,rfl⟩ := List.mem_iff_getElem.mp hb
    have z := h i hi
    rw [List.getElem?_eq_getElem hi] at z
    exact z
  · intro h i hi
    rw [List.getElem?_eq_getElem hi]
    exact h _ (List.getElem_mem hi)
theorem call_all {X : Cx} (hc : X.calm = true) : CallR X (.builtin "all") (fun xs H Q => ∃ (p : Addr) (bs : List Bool),xs = [.ref p] ∧ SqL X.K H p (bs.map V.bl) ∧ Q (.bl (bs.all id)) H) := by
  intro pins s σ H xs us Q I r h
  obtain ⟨p,bs,rfl,hq,q⟩ := h
  obtain ⟨u,rfl,rx⟩ := vals1 r
  cases rx
  obtain ⟨its,rv,pl,_⟩ := I.list hq
  have hl := pl.isList
  have lt : p < s.heap.objs.size := by
    obtain ⟨_,e,_⟩ := hl
    exact Heap.lt_size e
  refine call_all_walk (wpAny_pyIter_list hl ?_)
  refine ⟨s.heap.objs.size,[s.heap.objs.size,p],[s.heap.objs.size],its.toArray.size,_,_,fun i => (bs[i]?).getD true,rfl,Walks.list (A := X.A.in1) (I.ok.hd hc) _ p (Nat.ne_of_lt lt) its.toArray,?_⟩
  refine ⟨⟨⟨_,Heap.get?_push_size _ rfl,rfl,rfl⟩,hl.push _⟩,fun i v s' Q' E' hP hQ => ?_,fun h' tk hk => ?_⟩
  · obtain ⟨b,e,rfl⟩ := bl_at rv (by simpa using hP)
    simp only [e,Option.getD_some] at hQ
    exact wpAny_truthy_bool hQ
  · have el : its.toArray.size = bs.length := by
      have := rv.length
      rw [List.length_map] at this
      rw [List.size_toArray]
      omega
    rw [el,all_range]
    refine ⟨.bl _,H,I.kept (t' := tk) fun b o e => ?_,rfl,q⟩
    exact hk b o (fun hm => by rw [List.mem_singleton.mp hm] at e; exact Nat.lt_irrefl _ (Heap.lt_size e)) (Heap.get?_push_of_some _ e)
end L2
namespace Sp7
open PySem PySem.Spec L2 Mth Sp1 Sp2 Sp3
def larg : Int := 999999999999
def Sm (x : Int) : Prop := -larg ≤ x ∧ x ≤ larg
structure LineM (H : Hp) (l : Addr) (qs : Crn) : Prop where
  lst : H l = some (.lst (qs.map fun q => V.ref q.1))
  crn : ∀ q ∈ qs,H q.1 = some (.tup [.int q.2.1,.int q.2.2]) ∧ Sm q.2.1 ∧ Sm q.2.2
theorem LineM.mono {H H' : Hp} {l : Addr} {qs : Crn} (L : LineM H l qs) (s : Same H H') : LineM H' l qs := ⟨s _ _ L.lst,fun q h => ⟨s _ _ (L.crn q h).1,(L.crn q h).2⟩⟩
theorem sm_bits {x : Int} (h : Sm x) : bits x ≤ 50 := by
  obtain ⟨a,b⟩ := h
  unfold larg at a b
  refine bits_of (n := 50) ?_
  show _ < 1125899906842624
  omega
def retScope (s : Stmt) : Scope := match s with
  | .Return (some (.Call _ [.ListComp _ _ sc _] _ _)) _ => sc
  | .Return (some (.ListComp _ _ sc _)) _ => sc
  | _ => { kind := .function,names := [],isGenerator := false,isCoroutine := false }
end Sp7
namespace L2
open PySem PySem.Spec PyProof.Rows
theorem bits_add2 {i j : Int} {m n : Nat} (hi : bits i ≤ m) (hj : bits j ≤ n) : bits (i + j) ≤ max m n + 1 := bits_add (bits_le hi (Nat.le_max_left _ _)) (bits_le hj (Nat.le_max_right _ _))
theorem bits_emod {i j : Int} {n : Nat} (hj : 0 < j) (h : bits j ≤ n) : bits (i % j) ≤ n := bits_range (Int.emod_nonneg _ (by omega)) (Int.le_of_lt (Int.emod_lt_of_pos _ hj)) h
theorem dec_t {p : Prop} [Decidable p] (h : decide p = true) : p := of_decide_eq_true h
theorem dec_f {p : Prop} [Decidable p] (h : decide p = false) : ¬ p := of_decide_eq_false h
theorem CM.of {i j : Int} {m n : Nat} (hi : bits i ≤ m) (hj : bits j ≤ n) (h : m ≤ 1000000 ∧ n ≤ 1000000) : CM i j := CM.b hi hj (by have : (2:Nat) ^ 20 = 1048576 := by decide
                                                                                                                                     omega) (by have : (2:Nat) ^ 20 = 1048576 := by decide
                                                                                                                                                omega)
end L2
namespace L2
open PySem PySem.Spec PyProof.Rows
def SameT (H H' : Hp) : Prop := ∀ b xs,H b = some (.tup xs) → H' b = some (.tup xs)
theorem Same.t {H H' : Hp} (s : Same H H') : SameT H H' := fun b xs e => s b _ e
theorem SameT.refl {H : Hp} : SameT H H := fun _ _ e => e
theorem SameT.trans {H H1 H2 : Hp} (a : SameT H H1) (b : SameT H1 H2) : SameT H H2 := fun c xs e => b c xs (a c xs e)
theorem SameT.upd {H : Hp} {l : Addr} {xs ys : List V} (hl : H l = some (.lst xs)) : SameT H (upd H l (.lst ys)) := fun b zs e => by
  rw [upd_ne (ne_of e hl (by intro z; cases z))]
  exact e
theorem Same.upd {H0 H : Hp} {l : Addr} {o : HO} (s : Same H0 H) (hl : H0 l = none) : Same H0 (upd H l o) := fun b u e => by
  rw [upd_ne (ne_of_none e hl)]
  exact s b u e
def CompAt (J : It) (fv : List (Str × Nat)) (te : TE) (σ : St) (H1 : Hp) (Q : VK) : Prop := ∀ p,H1 p = none → ∃ W : Nat → Nat → List V → Hp → Prop,(∃ m,W 0 m [] (upd H1 p (.lst []))) ∧ ∀ i m acc H2,W i m acc H2 →
  H2 p = some (.lst acc) ∧ acc.length < sizeLine ∧ ((J.stop i H2 ∧ Q (.ref p) H2) ∨ (J.go i H2 ∧ ∀ x H3,J.yld i H2 x H3 → te (some x :: fvs fv σ) H3 fun y H4 => H4 p = some (.lst acc) ∧ ∃ m',m' < m ∧ W (i + 1) m' (acc ++ [y]) (upd H4 p (.lst (acc ++ [y])))))
def tCompA (wi : TI) (fv : List (Str × Nat)) (te : TE) : TE := fun σ H Q => wi σ H fun J H1 => CompAt J fv te σ H1 Q
section
variable {X : Cx} {scope : Scope} {cl : List (Str × Addr)} {x : Str} {fv : List (Str × Nat)} {elt iter : Expr} {px pos : Pos} {te : TE}
theorem pe_compA {wi : TI} (hcalm : X.calm = true) (C : CompN X scope cl x fv) (hi : PI X (.Name x px) iter wi) (he : ∀ (fp : List Addr) (s₀ : Shared) (H₀ : Hp),PE (X.blk (x :: fv.map (·.1)) scope cl fp s₀ H₀) elt te)
    (hs : ∀ v,foldedSetIterable iter X.env v = pure v := by intro _; rfl) : PE X (.ListComp elt [⟨.Name x px,iter,[],0⟩] scope pos) (tCompA wi fv te) := pe_comp hcalm C hi he hs
theorem ps_setCompA {wi : TI} {y : Str} {j : Nat} {py spos : Pos} (hcalm : X.calm = true) (C : CompN X scope cl x fv) (hN : X.N.Nodup) (hj : X.N[j]? = some y) (hy : X.env.scope.names.lookup y = some .local) (hi : PI X (.Name x px) iter wi) (he : ∀ (fp : List Addr) (s₀ : Shared) (H₀ : Hp),PE (X.blk (x :: fv.map (·.1)) scope cl fp s₀ H₀) elt te)
    (hsw : swapsWith (.ListComp elt [⟨.Name x px,iter,[],0⟩] scope pos) (some (.Name y py)) spos.line X.env = pure true := by rfl)
    (hs : ∀ v,foldedSetIterable iter X.env v = pure v := by intro _; rfl) : PS X (.Assign [.Name y py] (.ListComp elt [⟨.Name x px,iter,[],0⟩] scope pos) spos) (tAsg (tCompA wi fv te) (gName j)) := ps_setComp hcalm C hN hj hy hi he hsw hs
end
theorem comp_R {K : PySem.W.Frag} {a : Addr} {xs : List V} {fv : List (Str × Nat)} {te : TE} {σ : St} {H1 : Hp} {Q : VK} (hL : SqL K H1 a xs) (hlen : xs.length < 1000) (R : Nat → V → Hp → Prop) (hR : ∀ i v H H',SameT H H' → R i v H → R i v H')
    (hs : ∀ i x H2 (Kc : VK),xs[i]? = some x → Same H1 H2 → (∀ y H4,Same H2 H4 → R i y H4 → Kc y H4) → te (some x :: fvs fv σ) H2 Kc)
    (hd : ∀ l ys H',H1 l = none → Same H1 H' → H' l = some (.lst ys) → ys.length = xs.length → (∀ i y,ys[i]? = some y → R i y H') → Q (.ref l) H') :
    CompAt (Itl K a) fv te σ H1 Q := by
  intro l hl
  refine comp_list (K := K) (a := a) (xs := xs) (l := l) (fv := fv) (Qp := fun H2 => Q (.ref l) H2) (fun i acc H2 => acc.length = i ∧ Same H1 H2 ∧ H2 l = some (.lst acc) ∧ ∀ j y,acc[j]? = some y → R j y H2)
    ⟨rfl,Same.new hl,upd_same,fun j y h => by simp at h⟩ ?_ ?_ ?_
  · rintro i acc H2 hi ⟨e1,sm,e3,_⟩
    exact ⟨sm.seq hL,e3,small1000 (by omega)⟩
  · rintro i x acc H2 Kc hx ⟨e1,sm,e3,hr⟩ kk
    refine hs i x H2 Kc hx sm fun y H4 s4 ry => kk y H4 (s4 _ _ e3) ⟨by simp [e1],(sm.trans s4).upd hl,upd_same,fun j z hz => ?_⟩
    have t4 := SameT.upd (ys := acc ++ [y]) (s4 _ _ e3)
    rcases Nat.lt_trichotomy j acc.length with h | h | h
    · rw [List.getElem?_append_left h] at hz
      exact hR _ _ _ _ (s4.t.trans t4) (hr j z hz)
    · subst h
      rw [List.getElem?_append_right (Nat.le_refl _),Nat.sub_self] at hz
      cases hz
      rw [e1]
      exact hR _ _ _ _ t4 ry
    · rw [List.getElem?_eq_none (by simp; omega)] at hz
      cases hz
  · rintro acc H2 ⟨e1,sm,e3,hr⟩
    exact hd l acc H2 hl sm e3 e1 hr
theorem nice_int : Nice "int" := .inl rfl
theorem nice_bool : Nice "bool" := .inr (.inl rfl)
theorem nice_tuple : Nice "tuple" := .inr (.inr (.inl rfl))
theorem nice_list : Nice "list" := .inr (.inr (.inr (.inl rfl)))
theorem nice_str : Nice "str" := .inr (.inr (.inr (.inr rfl)))
end L2
namespace L2
open PySem PySem.Spec PyProof.Rows
section
variable {X : Cx} {pos : Pos} {es : List Expr} {ta : TA}
def tTupA (t : TA) : TE := fun σ H Q => t σ H fun xs H1 => xs.length ≤ sizeLine ∧ ∀ p H2,Same H1 H2 → H2 p = some (.tup xs) → H1 p = none → Q (.ref p) H2
def tLstA (t : TA) : TE := fun σ H Q => t σ H fun xs H1 => xs.length ≤ sizeLine ∧ ∀ p H2,Same H1 H2 → H2 p = some (.lst xs) → H1 p = none → Q (.ref p) H2
theorem pe_tupA {x1} (h : PA X es ta) : PE X (.Tuple es x1 pos) (tTupA ta) := by
  intro pins s σ H Q I hq
  refine wpAny_Tuple_spliced (thn (h pos pins s σ H _ I hq) fun us s1 ⟨xs,H1,I1,r,z,q⟩ => ⟨by rw [← r.length]; exact z,?_⟩)
  have hf : H1 s1.heap.objs.size = none := I1.hok.fresh (Nat.le_refl _)
  refine ⟨.ref s1.heap.objs.size,upd H1 s1.heap.objs.size (.tup xs),I1.laid (t' := s1.toks) (fun b u e => Heap.get?_push_of_some _ e) (Nat.le_refl _) ?_,rfl,q _ _ (Same.new hf) upd_same hf⟩
  exact ⟨z,us,r,⟨_,Heap.get?_push_size _ rfl,rfl,_,rfl⟩⟩
theorem pe_lstA (h : PA X es ta) : PE X (.List es pos) (tLstA ta) := by
  intro pins s σ H Q I hq
  refine wpAny_List_spliced (thn (h pos pins s σ H _ I hq) fun us s1 ⟨xs,H1,I1,r,z,q⟩ => ⟨by rw [← r.length]; exact z,?_⟩)
  have hf : H1 s1.heap.objs.size = none := I1.hok.fresh (Nat.le_refl _)
  refine ⟨.ref s1.heap.objs.size,upd H1 s1.heap.objs.size (.lst xs),I1.laid (t' := s1.toks) (fun b u e => Heap.get?_push_of_some _ e) (Nat.le_refl _) ?_,rfl,q _ _ (Same.new hf) upd_same hf⟩
  exact ⟨z,us,0,r,Heap.get?_push_size _ rfl⟩
def rSlLA (K : PySem.W.Frag) : V → Option Int → Option Int → Hp → VK → Prop := fun x lo hi H Q => ∃ a xs,x = .ref a ∧ SqL K H a xs ∧ ∀ p H2,Same H H2 → H2 p = some (.lst (cutV xs lo hi)) → H p = none → Q (.ref p) H2
theorem sl_listA : SlR X (rSlLA X.K) := fun pins s σ H x v vl vu lo hi sl Q I rx hs pl pu ⟨a,xs,e,hx,q⟩ =>
  sl_list pins s σ H x v vl vu lo hi sl Q I rx hs pl pu ⟨a,xs,e,hx,fun p hp => q p _ (Same.new hp) upd_same hp⟩
def rRepA : R2 := fun x y H Q => ∃ l k xs,x = .ref l ∧ y = .int k ∧ H l = some (.lst xs) ∧ -(2 ^ 63) ≤ k ∧ k < 2 ^ 63 ∧ xs.length * k.toNat ≤ sizeLine ∧ ∀ p H2,Same H H2 → H2 p = some (.lst (List.replicate k.toNat xs).flatten) → H p = none → Q (.ref p) H2
theorem op_repA : OpR X (binaryOp .Mult) rRepA := fun pins s σ H x y v u Q I rx ry ⟨l,k,xs,e1,e2,h1,h2,h3,hz,q⟩ =>
  op_rep pins s σ H x y v u Q I rx ry ⟨l,k,xs,e1,e2,h1,h2,h3,hz,fun p hp => q p _ (Same.new hp) upd_same hp⟩
theorem call_list_ofA : CallR X (.type "list") (fun xs H Q => ∃ p ys,xs = [.ref p] ∧ (SqL X.K H p ys ∨ SqT X.K H p ys) ∧ ∀ l H2,Same H H2 → H2 l = some (.lst ys) → H l = none → Q (.ref l) H2) := fun pins s σ H xs us Q I r ⟨p,ys,e,hq,q⟩ =>
  call_list_of pins s σ H xs us Q I r ⟨p,ys,e,hq,fun l hl => q l _ (Same.new hl) upd_same hl⟩
structure Upd (H H' : Hp) (l : Addr) (xs ys : List V) : Prop where
  was : H l = some (.lst xs)
  now : H' l = some (.lst ys)
  oth : ∀ b,b ≠ l → H' b = H b
theorem Upd.mk' {H : Hp} {l : Addr} {xs ys : List V} (h : H l = some (.lst xs)) : Upd H (L2.upd H l (.lst ys)) l xs ys := ⟨h,upd_same,fun _ n => upd_ne n⟩
theorem Upd.t {H H' : Hp} {l : Addr} {xs ys : List V} (u : Upd H H' l xs ys) : SameT H H' := fun b zs e => by
  rw [u.oth b (ne_of e u.was (by intro z; cases z))]
  exact e
theorem Upd.same {H0 H H' : Hp} {l : Addr} {xs ys : List V} (u : Upd H H' l xs ys) (s : Same H0 H) (h : H0 l = none) : Same H0 H' := fun b o e => by
  rw [u.oth b (ne_of_none e h)]
  exact s b o e
theorem Upd.at {H H' : Hp} {l b : Addr} {xs ys : List V} {o : HO} (u : Upd H H' l xs ys) (n : b ≠ l) (e : H b = some o) : H' b = some o := by
  rw [u.oth b n]
  exact e
def rAppendA : V → List V → Hp → VK → Prop := fun x vs H Q => ∃ l xs y,x = .ref l ∧ vs = [y] ∧ H l = some (.lst xs) ∧ xs.length < sizeLine ∧ ∀ H',Upd H H' l xs (xs ++ [y]) → Q .non H'
theorem mt_appendA : MtM X "list.append" rAppendA := fun pins s σ H x xs v us Q I rx rs ⟨l,ys,y,e1,e2,h,hz,q⟩ =>
  mt_append pins s σ H x xs v us Q I rx rs ⟨l,ys,y,e1,e2,h,hz,q _ (.mk' h)⟩
def rSetLA : V → V → V → Hp → (Hp → Prop) → Prop := fun o i v H Q => ∃ p xs k j,o = .ref p ∧ i = .int k ∧ H p = some (.lst xs) ∧ ixN xs.length k = some j ∧ ∀ H',Upd H H' p xs (xs.set j v) → Q H'
theorem set_listA : PSet X rSetLA := fun pins s σ H o i v uo ui uv Q I ro ri rv ⟨p,xs,k,j,e1,e2,h,hj,q⟩ =>
  set_list pins s σ H o i v uo ui uv Q I ro ri rv ⟨p,xs,k,j,e1,e2,h,hj,q _ (.mk' h)⟩
def rReverseA : V → List V → Hp → VK → Prop := fun x vs H Q => ∃ l xs,x = .ref l ∧ vs = [] ∧ H l = some (.lst xs) ∧ ∀ H',Upd H H' l xs xs.reverse → Q .non H'
theorem mt_reverseA : MtM X "list.reverse" rReverseA := fun pins s σ H x xs v us Q I rx rs ⟨l,ys,e1,e2,h,q⟩ =>
  mt_reverse pins s σ H x xs v us Q I rx rs ⟨l,ys,e1,e2,h,q _ (.mk' h)⟩
end
end L2
namespace L2
open PySem PySem.Spec PyProof.Rows
theorem menu {K : PySem.W.Frag} {H : Hp} {l : Addr} {xs : List V} {i : Int} {Q : VK} (e : H l = some (.lst xs)) (h0 : 0 ≤ i) (h1 : i < (xs.length : Int)) (h : ∀ v ∈ xs,Q v H) : rIxL K (.ref l) (.int i) H Q := by
  obtain ⟨v,hv,mv⟩ := Sp1.atI_mem h0 h1
  exact ⟨l,xs,i,v,rfl,rfl,SqL.of e,hv,h v mv⟩
theorem len3 {α : Type} {xs : List α} (h : xs.length = 3) : ∃ a b c,xs = [a,b,c] := match xs,h with | [a,b,c],_ => ⟨a,b,c,rfl⟩
theorem len2 {α : Type} {xs : List α} (h : xs.length = 2) : ∃ a b,xs = [a,b] := match xs,h with | [a,b],_ => ⟨a,b,rfl⟩
theorem len4 {α : Type} {xs : List α} (h : xs.length = 4) : ∃ a b c d,xs = [a,b,c,d] := match xs,h with | [a,b,c,d],_ => ⟨a,b,c,d,rfl⟩
theorem len5 {α : Type} {xs : List α} (h : xs.length = 5) : ∃ a b c d e,xs = [a,b,c,d,e] := match xs,h with | [a,b,c,d,e],_ => ⟨a,b,c,d,e,rfl⟩
theorem len6 {α : Type} {xs : List α} (h : xs.length = 6) : ∃ a b c d e f,xs = [a,b,c,d,e,f] := match xs,h with | [a,b,c,d,e,f],_ => ⟨a,b,c,d,e,f,rfl⟩
end L2
namespace L2
open PySem PySem.Spec PyProof.Rows
section
variable {X : Cx} {pins : List (Addr × Obj)} {σ : St} {H : Hp} {s : Shared}
theorem Inv.turnedL {h' : Heap} {t' : Nat} {ch : List Addr} (I : Inv X pins σ H s) (k : ∀ b o,b ∉ ch → s.heap.get? b = some o → h'.get? b = some o) (hf : ∀ b ∈ ch,FpOk X pins H b) : Inv X pins σ H { s with heap := h',toks := t' } := by
  have nit : ∀ b u,H b = some u → b ∉ ch := fun b u e z => by
    have n := (hf b z).1
    rw [n] at e
    cases e
  refine I.step (g' := s.gens) (d' := s.drawn) (ch := ch) (fun b hb => ?_) (fun b o _ _ hc e _ => k b o hc e) (fun b o _ _ hc e _ => ⟨o.slots,k b o hc e⟩) (fun _ _ _ _ n => n)
    (fun b o hc e => ⟨o,k b o hc e⟩) (fun _ _ e => e) (fun _ _ _ e => e) (fun b ps e => ⟨#[],by rw [e]; simp⟩) (fun m hm => ?_) (fun b u e => ?_) I.bare
  · obtain ⟨f0,f1,f2,f3,f4,f5⟩ := hf b hb
    exact ⟨f3,f1,f4,f5⟩
  · obtain ⟨o,es,ep,ho,r⟩ := hm
    exact ⟨o,es,ep,k _ o (fun z => (hf _ z).2.1 rfl) ho,r⟩
  · refine (I.hok b u e).stay (fun c v hc q => k c v ?_ q) (fun _ q => q) fun _ _ q => q
    rcases hc with z | z
    · rw [z]; exact nit b u e
    · exact nit c _ z
theorem turn_item {E : Value → Shared → Prop} {elts : List Expr} {kt : Nat} {pos : Pos} {i n : Nat} {z : Addr} {fpw wr : List Addr} {Pt : Nat → Array Value → Prop} {Stt : Nat → Heap → Prop} {Mid : Nat → Addr → Heap → Prop} {R : Value → Shared → Prop}
    (W : WalksT X.prog X.w X.A z fpw wr n Pt Stt Mid) (I : Inv X pins σ H s) (hwr : ∀ b ∈ wr,FpOk X pins H b) (hi : i < n) (st : Stt i s.heap)
    (k : ∀ T vals s2,Pt i vals → s.heap.objs.size ≤ T → s2.heap.IsTuple T vals → Stt (i + 1) s2.heap → Inv X pins σ H s2 → (∀ b o,b ∉ wr → s.heap.get? b = some o → s2.heap.get? b = some o) → R (.ref T) s2) :
    wpAny (model X.prog X.w) X.A (pyNext (.ref z)) (fun r s1 => ∃ u,r = some u ∧ wpAny (model X.prog X.w) X.A (letOwnedTupleGo (.Tuple elts kt pos) (.ref z) u) (fun _ s2 => R u s2) E s1) E s := by
  refine W.item i s _ E hi st fun T vals h' tk hp hT tup mid kk => ⟨.ref T,rfl,?_⟩
  refine W.go elts kt pos i T _ _ E mid fun h2 st2 k2 => ?_
  have kall : ∀ b o,b ∉ wr → s.heap.get? b = some o → h2.get? b = some o := fun b o hb e => k2 b o hb (kk b o hb e)
  obtain ⟨o,eo,ro⟩ := tup
  exact k T vals _ hp hT ⟨o,k2 T o (W.apart i T _ mid) eo,ro⟩ st2 (I.turnedL (t' := tk) kall hwr) kall
theorem track_tup {T : Addr} {s2 : Shared} {xs : List V} {us : List Value} (I : Inv X pins σ H s) (J : Inv X pins σ H s2) (hT : s.heap.objs.size ≤ T) (ht : s2.heap.IsTuple T us.toArray) (r : Vals xs us) (hz : xs.length ≤ sizeLine) : Inv X pins σ (upd H T (.tup xs)) s2 ∧ H T = none := by
  have hn : H T = none := I.hok.fresh hT
  obtain ⟨f0,f1,f2,f3,f4,f5⟩ := I.fpOk hT hn
  refine ⟨J.track hn ?_ f1 f4 f5 ⟨hz,us,r,ht⟩,hn⟩
  cases e : X.s₀.heap.get? T with
  | none => rfl
  | some o =>
    have h1 := Heap.lt_size e
    have h2 := I.sz
    exact absurd (Nat.lt_of_lt_of_le h1 (Nat.le_trans h2 hT)) (Nat.lt_irrefl _)
end
def Itz (K : PySem.W.Frag) (l1 l2 : Addr) : It :=
  ⟨fun i H => ∃ xs ys x y,SqL K H l1 xs ∧ SqL K H l2 ys ∧ xs[i]? = some x ∧ ys[i]? = some y,
   fun i H v H' => ∃ p x y,v = .ref p ∧ H p = none ∧ H' = upd H p (.tup [x,y]) ∧ ∀ xs ys,SqL K H l1 xs → SqL K H l2 ys → xs[i]? = some x ∧ ys[i]? = some y,
   fun i H => ∃ xs ys,SqL K H l1 xs ∧ SqL K H l2 ys ∧ i = min xs.length ys.length⟩
def Ite (K : PySem.W.Frag) (l : Addr) : It :=
  ⟨fun i H => ∃ xs x,SqL K H l xs ∧ xs[i]? = some x,
   fun i H v H' => ∃ p x,v = .ref p ∧ H p = none ∧ H' = upd H p (.tup [.int (i : Int),x]) ∧ ∀ xs,SqL K H l xs → xs[i]? = some x,
   fun i H => ∃ xs,SqL K H l xs ∧ i = xs.length⟩
theorem turn_zip {P : Program} {w : World} {K : PySem.W.Frag} {elts : List Expr} {kt : Nat} {pos : Pos} (z TI TO i1 i2 l1 l2 : Addr) (D : ZipApart z TI TO i1 i2 l1 l2) :
    Turn P w K (.Tuple elts kt pos) (Itz K l1 l2) [z,TI,TO,i1,i2] z (fun i h => IsZip h z TI TO .none ∧ IsPair h TI (.ref i1) (.ref i2) ∧ (∃ a b,IsPair h TO a b) ∧ h.IsListIter i1 l1 i ∧ h.IsListIter i2 l2 i) where
  mem := by simp
  obj := fun i h st b hb => by
    obtain ⟨hz,hTI,⟨a,c,hTO⟩,⟨o1,e1,c1,d1⟩,⟨o2,e2,c2,d2⟩⟩ := st
    simp only [List.mem_cons,List.not_mem_nil,or_false] at hb
    rcases hb with rfl | rfl | rfl | rfl | rfl
    · exact ⟨_,hz,fun v y => by cases y⟩
    · exact ⟨_,hTI,fun v y => by cases y⟩
    · exact ⟨_,hTO,fun v y => by cases y⟩
    · exact ⟨o1,e1,fun v y => by rw [d1] at y; cases y⟩
    · exact ⟨o2,e2,fun v y => by rw [d2] at y; cases y⟩
  keep := fun i h h' st k => by
    obtain ⟨hz,hTI,⟨a,c,hTO⟩,h1,h2⟩ := st
    exact ⟨k z (by simp) _ hz,k TI (by simp) _ hTI,⟨a,c,k TO (by simp) _ hTO⟩,h1.at fun o e => k i1 (by simp) o e,h2.at fun o e => k i2 (by simp) o e⟩
  item := by
    intro X hP hw hK hc i pins s σ H E I hf st hg
    subst hP hw hK
    obtain ⟨xs,ys,x,y,q1,q2,hx,hy⟩ := hg
    obtain ⟨its,r1,p1,_⟩ := I.list q1
    obtain ⟨jts,r2,p2,_⟩ := I.list q2
    obtain ⟨u1,hu1,ru1⟩ := r1.get hx
    obtain ⟨u2,hu2,ru2⟩ := r2.get hy
    have W := WalksT.zip2 (prog := X.prog) (w := X.w) (I.ok.hd hc) z TI TO i1 i2 l1 l2 D its.toArray jts.toArray
    have hn : i < min its.toArray.size jts.toArray.size := by
      have g1 := (List.getElem?_eq_some_iff.mp hu1).1
      have g2 := (List.getElem?_eq_some_iff.mp hu2).1
      simp only [List.size_toArray]
      omega
    obtain ⟨hz,hTI,hTO,h1,h2⟩ := st
    refine turn_item W I (fun b hb => hf b (by simp at hb ⊢; rcases hb with h | h | h | h <;> simp [h])) hn ⟨hz,hTI,hTO,h1,h2,p1.isList,p2.isList⟩ fun T vals s2 hp hT tup st2 J2 kall => ?_
    obtain ⟨v1,v2,e1,e2,rfl⟩ := hp
    have e1' : its[i]? = some v1 := by simpa using e1
    have e2' : jts[i]? = some v2 := by simpa using e2
    rw [hu1] at e1'
    rw [hu2] at e2'
    cases e1'
    cases e2'
    obtain ⟨J3,nT⟩ := track_tup (xs := [x,y]) (us := [u1,u2]) I J2 hT tup (.cons ru1 (.cons ru2 .nil)) (Sp1.sz (by simp))
    obtain ⟨hz2,hTI2,hTO2,h12,h22,_,_⟩ := st2
    refine ⟨.ref T,upd H T (.tup [x,y]),J3,rfl,⟨T,x,y,rfl,nT,rfl,fun as bs qa qb => ?_⟩,⟨hz2,hTI2,hTO2,h12,h22⟩,fun b hb => ?_⟩
    · rw [I.list_inj qa q1,I.list_inj qb q2]
      exact ⟨hx,hy⟩
    · have hb' : ∃ o,s.heap.get? b = some o := by
        obtain ⟨a,c,hTO⟩ := hTO
        obtain ⟨o1,e1,_⟩ := h1
        obtain ⟨o2,e2,_⟩ := h2
        simp only [List.mem_cons,List.not_mem_nil,or_false] at hb
        rcases hb with rfl | rfl | rfl | rfl | rfl
        · exact ⟨_,hz⟩
        · exact ⟨_,hTI⟩
        · exact ⟨_,hTO⟩
        · exact ⟨_,e1⟩
        · exact ⟨_,e2⟩
      obtain ⟨o,eo⟩ := hb'
      rw [upd_ne (Nat.ne_of_lt (Nat.lt_of_lt_of_le (Heap.lt_size eo) hT))]
      exact (hf b hb).1
  done := by
    intro X hP hw hK hc i pins s σ H E I hf st hg
    subst hP hw hK
    obtain ⟨xs,ys,q1,q2,rfl⟩ := hg
    obtain ⟨its,r1,p1,_⟩ := I.list q1
    obtain ⟨jts,r2,p2,_⟩ := I.list q2
    have W := WalksT.zip2 (prog := X.prog) (w := X.w) (I.ok.hd hc) z TI TO i1 i2 l1 l2 D its.toArray jts.toArray
    obtain ⟨hz,hTI,hTO,h1,h2⟩ := st
    have el : min its.toArray.size jts.toArray.size = min xs.length ys.length := by
      rw [List.size_toArray,List.size_toArray,r1.length,r2.length]
    refine W.done s _ E ?_ fun h' tk kk => ⟨rfl,I.turnedL (t' := tk) kk fun b hb => hf b (by simp at hb ⊢; rcases hb with h | h | h | h <;> simp [h])⟩
    rw [el]
    exact ⟨hz,hTI,hTO,h1,h2,p1.isList,p2.isList⟩
  self := fun _ _ _ _ _ st h => wpAny_pyIter_zip st.1 h
theorem turn_enum {P : Program} {w : World} {K : PySem.W.Frag} {elts : List Expr} {kt : Nat} {pos : Pos} (e it l : Addr) (hei : e ≠ it) (hle : l ≠ e) (hli : l ≠ it) :
    Turn P w K (.Tuple elts kt pos) (Ite K l) [e,it] e (fun i h => (∃ old,IsEnum h e it i old) ∧ h.IsListIter it l i) where
  mem := by simp
  obj := fun i h st b hb => by
    obtain ⟨⟨old,he⟩,⟨o1,e1,c1,d1⟩⟩ := st
    simp only [List.mem_cons,List.not_mem_nil,or_false] at hb
    rcases hb with rfl | rfl
    · exact ⟨_,he,fun v y => by cases y⟩
    · exact ⟨o1,e1,fun v y => by rw [d1] at y; cases y⟩
  keep := fun i h h' st k => by
    obtain ⟨⟨old,he⟩,h1⟩ := st
    exact ⟨⟨old,k e (by simp) _ he⟩,h1.at fun o x => k it (by simp) o x⟩
  item := by
    intro X hP hw hK hc i pins s σ H E I hf st hg
    subst hP hw hK
    obtain ⟨xs,x,q1,hx⟩ := hg
    obtain ⟨its,r1,p1,_⟩ := I.list q1
    obtain ⟨u1,hu1,ru1⟩ := r1.get hx
    have W := WalksT.enumerate (prog := X.prog) (w := X.w) (I.ok.hd hc) e it l hei hle hli its.toArray
    have hn : i < its.toArray.size := by
      have g1 := (List.getElem?_eq_some_iff.mp hu1).1
      simp only [List.size_toArray]
      omega
    obtain ⟨he,h1⟩ := st
    refine turn_item W I (fun b hb => hf b (by simpa using hb)) hn ⟨he,h1,p1.isList⟩ fun T vals s2 hp hT tup st2 J2 kall => ?_
    obtain ⟨tk,v1,e1,rfl⟩ := hp
    have e1' : its[i]? = some v1 := by simpa using e1
    rw [hu1] at e1'
    cases e1'
    obtain ⟨J3,nT⟩ := track_tup (xs := [.int (i : Int),x]) (us := [.int i tk,u1]) I J2 hT tup (.cons ⟨_,rfl⟩ (.cons ru1 .nil)) (Sp1.sz (by simp))
    obtain ⟨he2,h12,_⟩ := st2
    refine ⟨.ref T,upd H T (.tup [.int (i : Int),x]),J3,rfl,⟨T,x,rfl,nT,rfl,fun as qa => ?_⟩,⟨he2,h12⟩,fun b hb => ?_⟩
    · rw [I.list_inj qa q1]
      exact hx
    · have hb' : ∃ o,s.heap.get? b = some o := by
        obtain ⟨old,he⟩ := he
        obtain ⟨o1,e1,_⟩ := h1
        simp only [List.mem_cons,List.not_mem_nil,or_false] at hb
        rcases hb with rfl | rfl
        · exact ⟨_,he⟩
        · exact ⟨_,e1⟩
      obtain ⟨o,eo⟩ := hb'
      rw [upd_ne (Nat.ne_of_lt (Nat.lt_of_lt_of_le (Heap.lt_size eo) hT))]
      exact (hf b hb).1
  done := by
    intro X hP hw hK hc i pins s σ H E I hf st hg
    subst hP hw hK
    obtain ⟨xs,q1,rfl⟩ := hg
    obtain ⟨its,r1,p1,_⟩ := I.list q1
    have W := WalksT.enumerate (prog := X.prog) (w := X.w) (I.ok.hd hc) e it l hei hle hli its.toArray
    obtain ⟨he,h1⟩ := st
    refine W.done s _ E ?_ fun h' tk kk => ⟨rfl,I.turnedL (t' := tk) kk fun b hb => hf b (by simpa using hb)⟩
    rw [List.size_toArray,← r1.length]
    exact ⟨he,h1,p1.isList⟩
  self := fun _ _ _ _ _ st h => by
    obtain ⟨⟨old,he⟩,_⟩ := st
    exact wpAny_pyIter_enum he h
section
variable {X : Cx} {elts : List Expr} {kt : Nat} {tpos : Pos}
def iZip (K : PySem.W.Frag) (ta : TA) : TI := fun σ H R => ta σ H fun vs H1 => ∃ a b,vs = [.ref a,.ref b] ∧ (∃ xs,SqL K H1 a xs) ∧ (∃ ys,SqL K H1 b ys) ∧ R (Itz K a b) H1
def iEnum (K : PySem.W.Frag) (ta : TA) : TI := fun σ H R => ta σ H fun vs H1 => ∃ a,vs = [.ref a] ∧ (∃ xs,SqL K H1 a xs) ∧ R (Ite K a) H1
theorem bt_zip : bootBuiltins "zip" = some (.type "zip") := by decide +kernel
theorem bt_enumerate : bootBuiltins "enumerate" = some (.type "enumerate") := by decide +kernel
theorem pi_zip {a b : Expr} {ta : TA} {p pos : Pos} (hg : Gl X "zip") (hm : X.mg "zip" = none) (ha : PA X [a,b] ta) (hs : starEach [a,b] X.env = [(false,eval a X.env),(false,eval b X.env)] := by rfl) (hs2 : starEach [b] X.env = [(false,eval b X.env)] := by rfl) :
    PI X (.Tuple elts kt tpos) (.Call (.Name "zip" p) [a,b] [] pos) (iZip X.K ta) := by
  intro pins s σ H R I h
  refine Call_ (ld_blt I hg hm bt_zip (PyProof.Rows.callWith_type1 (thn (ha pos pins s σ H _ I h) fun us s1 ⟨vs,H1,I1,r1,q1⟩ => ?_) (by rw [hs,hs2]) (by rw [hs2]; rfl)))
  obtain ⟨l1,l2,e,⟨xs,hx⟩,⟨ys,hy⟩,q⟩ := q1
  subst e
  cases r1 with
  | cons r rr =>
    cases rr with
    | cons r' rr =>
      cases rr
      cases r
      cases r'
      obtain ⟨its,_,p1,_⟩ := I1.list hx
      obtain ⟨jts,_,p2,_⟩ := I1.list hy
      refine call_zip_2 p1.isList p2.isList fun h' hz hTI hTO hi1 hi2 hsz hk => ?_
      refine wpAny_pyIter_zip hz ?_
      have a1 : l1 < s1.heap.objs.size := by obtain ⟨_,e,_⟩ := p1.isList; exact Heap.lt_size e
      have a2 : l2 < s1.heap.objs.size := by obtain ⟨_,e,_⟩ := p2.isList; exact Heap.lt_size e
      refine ⟨s1.heap.objs.size + 4,[s1.heap.objs.size + 4,s1.heap.objs.size + 2,s1.heap.objs.size + 3,s1.heap.objs.size,s1.heap.objs.size + 1],_,_,H1,rfl,I1.kept (t' := s1.toks) hk,turn_zip _ _ _ _ _ l1 l2 (zipApart_new a1 a2),⟨hz,hTI,⟨_,_,hTO⟩,hi1,hi2⟩,fun b hb => ?_,q⟩
      have hb' : s1.heap.objs.size ≤ b := by
        simp only [List.mem_cons,List.not_mem_nil,or_false] at hb
        rcases hb with rfl | rfl | rfl | rfl | rfl <;> omega
      exact I1.fpOk hb' (I1.hok.fresh hb')
theorem pi_enum {a : Expr} {ta : TA} {p pos : Pos} (hg : Gl X "enumerate") (hm : X.mg "enumerate" = none) (ha : PA X [a] ta) (hs : starEach [a] X.env = [(false,eval a X.env)] := by rfl) :
    PI X (.Tuple elts kt tpos) (.Call (.Name "enumerate" p) [a] [] pos) (iEnum X.K ta) := by
  intro pins s σ H R I h
  refine Call_ (ld_blt I hg hm bt_enumerate (PyProof.Rows.callWith_type1 (thn (ha pos pins s σ H _ I h) fun us s1 ⟨vs,H1,I1,r1,q1⟩ => ?_) hs rfl))
  obtain ⟨l,e,⟨xs,hx⟩,q⟩ := q1
  subst e
  cases r1 with
  | cons r rr =>
    cases rr
    cases r
    obtain ⟨its,_,p1,_⟩ := I1.list hx
    refine call_enumerate_list p1.isList fun h' he hi hsz hk => ?_
    refine wpAny_pyIter_enum he ?_
    have a1 : l < s1.heap.objs.size := by obtain ⟨_,e,_⟩ := p1.isList; exact Heap.lt_size e
    refine ⟨s1.heap.objs.size + 1,[s1.heap.objs.size + 1,s1.heap.objs.size],_,_,H1,rfl,I1.kept (t' := s1.toks) hk,turn_enum _ _ l (Nat.succ_ne_self _) (Nat.ne_of_lt (Nat.lt_succ_of_lt a1)) (Nat.ne_of_lt a1),⟨⟨_,he⟩,hi⟩,fun b hb => ?_,q⟩
    have hb' : s1.heap.objs.size ≤ b := by
      simp only [List.mem_cons,List.not_mem_nil,or_false] at hb
      rcases hb with rfl | rfl <;> omega
    exact I1.fpOk hb' (I1.hok.fresh hb')
end
theorem for_zip {K : PySem.W.Frag} {a b : Addr} {xs ys : List V} {g : TG} {tb : TS} {D : Ends} {σ : St} {H : Hp} (Pv : Nat → St → Hp → Prop) (h0 : Pv 0 σ H) (hl : ∀ i σ H,i ≤ min xs.length ys.length → Pv i σ H → SqL K H a xs ∧ SqL K H b ys)
    (hs : ∀ i x y p σ H H1,xs[i]? = some x → ys[i]? = some y → Pv i σ H → Same H H1 → H1 p = some (.tup [x,y]) → g (.ref p) σ H1 fun σ2 H2 => tb { D with nx := Pv (i + 1),ct := Pv (i + 1),bk := D.nx } σ2 H2) (hd : ∀ σ H,Pv (min xs.length ys.length) σ H → D.nx σ H) :
    ∃ W : Nat → Nat → St → Hp → Prop,(∃ m,W 0 m σ H) ∧ ∀ i m σ H,W i m σ H →
      ((Itz K a b).stop i H ∧ D.nx σ H) ∨ ((Itz K a b).go i H ∧ ∃ N : St → Hp → Prop,(∀ σ' H',N σ' H' → ∃ m',m' < m ∧ W (i + 1) m' σ' H') ∧ ∀ x H',(Itz K a b).yld i H x H' → g x σ H' fun σ2 H2 => tb { D with nx := N,ct := N,bk := D.nx } σ2 H2) := by
  refine ⟨fun i m σ H => m = min xs.length ys.length - i ∧ i ≤ min xs.length ys.length ∧ Pv i σ H,⟨_,rfl,Nat.zero_le _,h0⟩,?_⟩
  rintro i m σ H ⟨rfl,hi,p⟩
  obtain ⟨q1,q2⟩ := hl i σ H hi p
  by_cases hlt : i < min xs.length ys.length
  · have h1 : i < xs.length := by omega
    have h2 : i < ys.length := by omega
    refine .inr ⟨⟨xs,ys,xs[i],ys[i],q1,q2,by simp [h1],by simp [h2]⟩,Pv (i + 1),fun σ' H' p' => ⟨_,by omega,rfl,hlt,p'⟩,fun v H' y => ?_⟩
    obtain ⟨t,x,y,rfl,nt,rfl,e⟩ := y
    obtain ⟨e1,e2⟩ := e xs ys q1 q2
    exact hs i x y t σ H _ e1 e2 p (Same.new nt) upd_same
  · have e : i = min xs.length ys.length := by omega
    subst e
    exact .inl ⟨⟨xs,ys,q1,q2,rfl⟩,hd σ H p⟩
theorem for_enum {K : PySem.W.Frag} {a : Addr} {xs : List V} {g : TG} {tb : TS} {D : Ends} {σ : St} {H : Hp} (Pv : Nat → St → Hp → Prop) (h0 : Pv 0 σ H) (hl : ∀ i σ H,i ≤ xs.length → Pv i σ H → SqL K H a xs)
    (hs : ∀ i x p σ H H1,xs[i]? = some x → Pv i σ H → Same H H1 → H1 p = some (.tup [.int (i : Int),x]) → g (.ref p) σ H1 fun σ2 H2 => tb { D with nx := Pv (i + 1),ct := Pv (i + 1),bk := D.nx } σ2 H2) (hd : ∀ σ H,Pv xs.length σ H → D.nx σ H) :
    ∃ W : Nat → Nat → St → Hp → Prop,(∃ m,W 0 m σ H) ∧ ∀ i m σ H,W i m σ H →
      ((Ite K a).stop i H ∧ D.nx σ H) ∨ ((Ite K a).go i H ∧ ∃ N : St → Hp → Prop,(∀ σ' H',N σ' H' → ∃ m',m' < m ∧ W (i + 1) m' σ' H') ∧ ∀ x H',(Ite K a).yld i H x H' → g x σ H' fun σ2 H2 => tb { D with nx := N,ct := N,bk := D.nx } σ2 H2) := by
  refine ⟨fun i m σ H => m = xs.length - i ∧ i ≤ xs.length ∧ Pv i σ H,⟨_,rfl,Nat.zero_le _,h0⟩,?_⟩
  rintro i m σ H ⟨rfl,hi,p⟩
  have q1 := hl i σ H hi p
  by_cases hlt : i < xs.length
  · refine .inr ⟨⟨xs,xs[i],q1,by simp [hlt]⟩,Pv (i + 1),fun σ' H' p' => ⟨_,by omega,rfl,hlt,p'⟩,fun v H' y => ?_⟩
    obtain ⟨t,x,rfl,nt,rfl,e⟩ := y
    exact hs i x t σ H _ (e xs q1) p (Same.new nt) upd_same
  · have e : i = xs.length := by omega
    subst e
    exact .inl ⟨⟨xs,q1,rfl⟩,hd σ H p⟩
end L2
namespace L2
open PySem PySem.Spec PyProof.Rows
inductive D where
  | non | bl (b : Bool) | int (i : Int) | str (x : Str) | tup (ds : List D) | lst (ds : List D)
inductive Rp (H : Hp) : Nat → V → D → Prop where
  | non {n : Nat} : Rp H n .non .non
  | bl {n : Nat} {b : Bool} : Rp H n (.bl b) (.bl b)
  | int {n : Nat} {i : Int} : Rp H n (.int i) (.int i)
  | str {n : Nat} {x : Str} : Rp H n (.str x) (.str x)
  | tup {n : Nat} {p : Addr} {xs : List V} {ds : List D} (e : H p = some (.tup xs)) (hl : xs.length = ds.length) (h : ∀ (j : Nat) x d,xs[j]? = some x → ds[j]? = some d → Rp H n x d) : Rp H (n + 1) (.ref p) (.tup ds)
  | lst {n : Nat} {p : Addr} {xs : List V} {ds : List D} (e : H p = some (.lst xs)) (hl : xs.length = ds.length) (h : ∀ (j : Nat) x d,xs[j]? = some x → ds[j]? = some d → Rp H n x d) : Rp H (n + 1) (.ref p) (.lst ds)
mutual
def deq : D → D → Bool
  | .non,.non => true
  | .bl a,.bl b => a == b
  | .bl a,.int b => (if a then 1 else 0) == b
  | .int a,.bl b => a == (if b then 1 else 0)
  | .int a,.int b => a == b
  | .str a,.str b => a == b
  | .tup xs,.tup ys => deqs xs ys
  | .lst xs,.lst ys => deqs xs ys
  | _,_ => false
def deqs : List D → List D → Bool
  | [],[] => true
  | x :: xs,y :: ys => deq x y && deqs xs ys
  | _,_ => false
end
theorem deqs_all : ∀ (ds es : List D),((List.range (min ds.length es.length)).all (fun j => deq (ds.getD j .non) (es.getD j .non)) && ds.length == es.length) = deqs ds es
  | [],[] => by simp [deqs]
  | [],e :: es => by simp [deqs]
  | d :: ds,[] => by simp [deqs]
  | d :: ds,e :: es => by
    have ih := deqs_all ds es
    have hm : min (d :: ds).length (e :: es).length = min ds.length es.length + 1 := by simp only [List.length_cons]; omega
    rw [hm,List.range_succ_eq_map,List.all_cons,List.all_map]
    simp only [deqs,List.getD_cons_zero,List.length_cons]
    rw [← ih,Bool.and_assoc]
    congr 1
    simp [Function.comp_def]
theorem deqs_len {ds es : List D} (h : ds.length ≠ es.length) : deqs ds es = false := by
  rw [← deqs_all]
  simp [h]
theorem deqs_all' {ds es : List D} (h : ds.length = es.length) : (List.range ds.length).all (fun j => deq (ds.getD j .non) (es.getD j .non)) = deqs ds es := by
  rw [← deqs_all,h]
  simp
theorem deqs_of {ds es : List D} (hl : ds.length = es.length) (h : ∀ (j : Nat) d e,ds[j]? = some d → es[j]? = some e → deq d e = true) : deqs ds es = true := by
  rw [← deqs_all' hl,List.all_eq_true]
  intro j hj
  have hj' : j < ds.length := List.mem_range.mp hj
  have hj2 : j < es.length := by omega
  have e1 : ds[j]? = some ds[j] := List.getElem?_eq_getElem hj'
  have e2 : es[j]? = some es[j] := List.getElem?_eq_getElem hj2
  rw [List.getD_eq_getElem?_getD,List.getD_eq_getElem?_getD,e1,e2]
  exact h j _ _ e1 e2
theorem get_of_len {α β : Type} {xs : List α} {ds : List β} {j : Nat} {d : β} (hl : xs.length = ds.length) (h : ds[j]? = some d) : ∃ x,xs[j]? = some x := by
  have := (List.getElem?_eq_some_iff.mp h).1
  exact ⟨xs[j],List.getElem?_eq_getElem (by omega)⟩
theorem Rp.self {H : Hp} {n m : Nat} {v : V} {d e : D} (r : Rp H n v d) (q : Rp H m v e) : deq d e = true := by
  induction r generalizing m e with
  | non => cases q; rfl
  | bl => cases q; simp [deq]
  | int => cases q; simp [deq]
  | str => cases q; simp [deq]
  | tup e1 hl h ih =>
    cases q with
    | tup e2 hl2 h2 =>
      rw [e1] at e2
      cases e2
      refine deqs_of (by omega) fun j a b ea eb => ?_
      obtain ⟨x,hx⟩ := get_of_len hl ea
      exact ih j x a hx ea (h2 j x b hx eb)
    | lst e2 hl2 h2 => rw [e1] at e2; cases e2
  | lst e1 hl h ih =>
    cases q with
    | tup e2 hl2 h2 => rw [e1] at e2; cases e2
    | lst e2 hl2 h2 =>
      rw [e1] at e2
      cases e2
      refine deqs_of (by omega) fun j a b ea eb => ?_
      obtain ⟨x,hx⟩ := get_of_len hl ea
      exact ih j x a hx ea (h2 j x b hx eb)
section
variable {X : Cx} {pins : List (Addr × Obj)} {σ : St} {H : Hp} {s : Shared}
theorem elts_at {A : Around} {xs ys : List V} {us ws : List Value} {ds es : List D} (r : Vals xs us) (r' : Vals ys ws) (hl : xs.length = ds.length) (hl' : ys.length = es.length)
    (h : ∀ (j : Nat) x y d e u w,xs[j]? = some x → ys[j]? = some y → ds[j]? = some d → es[j]? = some e → RelV x u → RelV y w → SeqAt.EqAt A s u w (deq d e))
    (j : Nat) (h1 : j < us.toArray.size) (h2 : j < ws.toArray.size) : SeqAt.EqAt A s us.toArray[j] ws.toArray[j] (deq (ds.getD j .non) (es.getD j .non)) := by
  rw [List.size_toArray] at h1 h2
  obtain ⟨a,ea,ra⟩ := val_get r h1
  obtain ⟨c,ec,rc⟩ := val_get r' h2
  have g1 := (List.getElem?_eq_some_iff.mp ea).1
  have g2 := (List.getElem?_eq_some_iff.mp ec).1
  have e1 : ds[j]? = some ds[j] := List.getElem?_eq_getElem (by omega)
  have e2 : es[j]? = some es[j] := List.getElem?_eq_getElem (by omega)
  rw [List.getD_eq_getElem?_getD,List.getD_eq_getElem?_getD,e1,e2]
  exact h j a c _ _ _ _ ea ec e1 e2 ra rc
theorem Rp.eqAt {n : Nat} {x : V} {d : D} (r : Rp H n x d) : ∀ {m : Nat} {y : V} {e : D} {A : Around} {u v : Value},Rp H m y e → Inv X pins σ H s → RelV x u → RelV y v → A.units + n < cLine → SeqAt.EqAt A s u v (deq d e) := by
  induction r with
  | non =>
    intro m y e A u v q I ru rv hu
    cases ru
    cases q with
    | non => cases rv; exact SeqAt.EqAt.same _
    | bl => cases rv; exact SeqAt.EqAt.none_bool _
    | int => obtain ⟨_,rfl⟩ := rv; exact SeqAt.EqAt.none_int _ _
    | str => obtain ⟨_,rfl⟩ := rv; exact SeqAt.EqAt.none_str _ _
    | tup e1 hl h => cases rv; obtain ⟨its,_,pl,_⟩ := I.tuple (SqT.of e1); exact SeqAt.EqAt.none_tuple pl (by omega)
    | lst e1 hl h => cases rv; obtain ⟨its,_,pl,_⟩ := I.list (SqL.of e1); exact SeqAt.EqAt.none_list pl.isList (by omega)
  | bl =>
    intro m y e A u v q I ru rv hu
    cases ru
    cases q with
    | non => cases rv; exact SeqAt.EqAt.bool_none _
    | bl => cases rv; exact SeqAt.EqAt.bool_bool _ _
    | int => obtain ⟨_,rfl⟩ := rv; exact SeqAt.EqAt.bool_int _ _ _
    | str => obtain ⟨_,rfl⟩ := rv; exact SeqAt.EqAt.bool_str _ _ _
    | tup e1 hl h => cases rv; obtain ⟨its,_,pl,_⟩ := I.tuple (SqT.of e1); exact SeqAt.EqAt.bool_tuple _ pl (by omega)
    | lst e1 hl h => cases rv; obtain ⟨its,_,pl,_⟩ := I.list (SqL.of e1); exact SeqAt.EqAt.bool_list _ pl.isList (by omega)
  | int =>
    intro m y e A u v q I ru rv hu
    obtain ⟨_,rfl⟩ := ru
    cases q with
    | non => cases rv; exact SeqAt.EqAt.int_none _ _
    | bl => cases rv; exact SeqAt.EqAt.int_bool _ _ _
    | int => obtain ⟨_,rfl⟩ := rv; exact SeqAt.EqAt.int_int _ _ _ _
    | str => obtain ⟨_,rfl⟩ := rv; exact SeqAt.EqAt.int_str _ _ _ _
    | tup e1 hl h => cases rv; obtain ⟨its,_,pl,_⟩ := I.tuple (SqT.of e1); exact SeqAt.EqAt.int_tuple _ _ pl (by omega)
    | lst e1 hl h => cases rv; obtain ⟨its,_,pl,_⟩ := I.list (SqL.of e1); exact SeqAt.EqAt.int_list _ _ pl.isList (by omega)
  | str =>
    intro m y e A u v q I ru rv hu
    obtain ⟨_,rfl⟩ := ru
    cases q with
    | non => cases rv; exact SeqAt.EqAt.str_none _ _
    | bl => cases rv; exact SeqAt.EqAt.str_bool _ _ _
    | int => obtain ⟨_,rfl⟩ := rv; exact SeqAt.EqAt.str_int _ _ _ _
    | str => obtain ⟨_,rfl⟩ := rv; exact SeqAt.EqAt.str_str _ _ _ _
    | tup e1 hl h => cases rv; obtain ⟨its,_,pl,_⟩ := I.tuple (SqT.of e1); exact SeqAt.EqAt.str_tuple _ _ pl (by omega)
    | lst e1 hl h => cases rv; obtain ⟨its,_,pl,_⟩ := I.list (SqL.of e1); exact SeqAt.EqAt.str_list _ _ pl.isList (by omega)
  | @tup n p xs ds e0 hl h ih =>
    intro m y e A u v q I ru rv hu
    cases ru
    obtain ⟨its,r1,pl,_⟩ := I.tuple (SqT.of e0)
    cases q with
    | non => cases rv; exact SeqAt.EqAt.tuple_none pl (by omega)
    | bl => cases rv; exact SeqAt.EqAt.tuple_bool _ pl (by omega)
    | int => obtain ⟨_,rfl⟩ := rv; exact SeqAt.EqAt.tuple_int _ _ pl (by omega)
    | str => obtain ⟨_,rfl⟩ := rv; exact SeqAt.EqAt.tuple_str _ _ pl (by omega)
    | lst e1 hl1 h1 => cases rv; obtain ⟨jts,_,pl',_⟩ := I.list (SqL.of e1); exact SeqAt.EqAt.tuple_list pl pl'.isList (by omega)
    | @tup m p' ys es e1 hl1 h1 =>
      cases rv
      by_cases hne : p = p'
      · subst hne
        have z : deq (.tup ds) (.tup es) = true := Rp.self (Rp.tup e0 hl h) (Rp.tup e1 hl1 h1)
        rw [z]
        exact SeqAt.EqAt.same _
      · obtain ⟨jts,r2,pl',_⟩ := I.tuple (SqT.of e1)
        have y := SeqAt.RcAt.tuples (A := A) (e := fun j => deq (ds.getD j .non) (es.getD j .non)) pl pl' (by omega) (elts_at r1 r2 hl hl1 fun j x y d e u w a b c k ra rb => ih j x d a c (h1 j y e b k) I ra rb (by show A.units + 1 + n < cLine; omega))
        rw [List.size_toArray,List.size_toArray,← r1.length,← r2.length,hl,hl1,deqs_all] at y
        exact SeqAt.EqAt.of_refs hne y
  | @lst n p xs ds e0 hl h ih =>
    intro m y e A u v q I ru rv hu
    cases ru
    obtain ⟨its,r1,pl,_⟩ := I.list (SqL.of e0)
    cases q with
    | non => cases rv; exact SeqAt.EqAt.list_none pl.isList (by omega)
    | bl => cases rv; exact SeqAt.EqAt.list_bool _ pl.isList (by omega)
    | int => obtain ⟨_,rfl⟩ := rv; exact SeqAt.EqAt.list_int _ _ pl.isList (by omega)
    | str => obtain ⟨_,rfl⟩ := rv; exact SeqAt.EqAt.list_str _ _ pl.isList (by omega)
    | tup e1 hl1 h1 => cases rv; obtain ⟨jts,_,pl',_⟩ := I.tuple (SqT.of e1); exact SeqAt.EqAt.list_tuple pl.isList pl' (by omega)
    | @lst m p' ys es e1 hl1 h1 =>
      cases rv
      by_cases hne : p = p'
      · subst hne
        have z : deq (.lst ds) (.lst es) = true := Rp.self (Rp.lst e0 hl h) (Rp.lst e1 hl1 h1)
        rw [z]
        exact SeqAt.EqAt.same _
      · obtain ⟨jts,r2,pl',_⟩ := I.list (SqL.of e1)
        have g1 := r1.length
        have g2 := r2.length
        by_cases hz : ds.length = es.length
        · have y := SeqAt.RcAt.lists (A := A) (e := fun j => deq (ds.getD j .non) (es.getD j .non)) pl.isList pl'.isList (by rw [List.size_toArray,List.size_toArray]; omega) (by omega) (elts_at r1 r2 hl hl1 fun j x y d e u w a b c k ra rb => ih j x d a c (h1 j y e b k) I ra rb (by show A.units + 1 + n < cLine; omega))
          rw [List.size_toArray,← r1.length,hl,deqs_all' hz] at y
          exact SeqAt.EqAt.of_refs hne y
        · rw [show deq (.lst ds) (.lst es) = false from deqs_len hz]
          exact SeqAt.EqAt.of_refs hne (SeqAt.RcAt.lists_lengths pl.isList pl'.isList (by rw [List.size_toArray,List.size_toArray]; simp; omega) (by omega))
end
end L2
namespace L2
open PySem PySem.Spec PyProof.Rows
section
variable {X : Cx} {pins : List (Addr × Obj)} {σ : St} {H : Hp} {s : Shared}
theorem Rp.rcAt {A : Around} {n m : Nat} {x y : V} {d e : D} {u v : Value} (r : Rp H n x d) (q : Rp H m y e) (I : Inv X pins σ H s) (ru : RelV x u) (rv : RelV y v) (hu : A.units + n + 1 < cLine) : SeqAt.RcAt A s u v (deq d e) := by
  cases r with
  | non =>
    cases q with
    | non =>
      cases ru
      cases rv
      exact SeqAt.RcAt.none_none
    | bl =>
      cases ru
      cases rv
      exact SeqAt.RcAt.none_bool _
    | int =>
      cases ru
      obtain ⟨_,rfl⟩ := rv
      exact SeqAt.RcAt.none_int _ _
    | str =>
      cases ru
      obtain ⟨_,rfl⟩ := rv
      exact SeqAt.RcAt.none_str _ _
    | @tup m p' ys es e1 hl1 h1 =>
      cases ru
      cases rv
      obtain ⟨jts,r2,pl',_⟩ := I.tuple (SqT.of e1)
      exact SeqAt.RcAt.none_tuple pl' (by omega)
    | @lst m p' ys es e1 hl1 h1 =>
      cases ru
      cases rv
      obtain ⟨jts,r2,pl',_⟩ := I.list (SqL.of e1)
      exact SeqAt.RcAt.none_list pl'.isList (by omega)
  | bl =>
    cases q with
    | non =>
      cases ru
      cases rv
      exact SeqAt.RcAt.bool_none _
    | bl =>
      cases ru
      cases rv
      exact SeqAt.RcAt.bool_bool _ _
    | int =>
      cases ru
      obtain ⟨_,rfl⟩ := rv
      exact SeqAt.RcAt.bool_int _ _ _
    | str =>
      cases ru
      obtain ⟨_,rfl⟩ := rv
      exact SeqAt.RcAt.bool_str _ _ _
    | @tup m p' ys es e1 hl1 h1 =>
      cases ru
      cases rv
      obtain ⟨jts,r2,pl',_⟩ := I.tuple (SqT.of e1)
      exact SeqAt.RcAt.bool_tuple _ pl' (by omega)
    | @lst m p' ys es e1 hl1 h1 =>
      cases ru
      cases rv
      obtain ⟨jts,r2,pl',_⟩ := I.list (SqL.of e1)
      exact SeqAt.RcAt.bool_list _ pl'.isList (by omega)
  | int =>
    cases q with
    | non =>
      obtain ⟨_,rfl⟩ := ru
      cases rv
      exact SeqAt.RcAt.int_none _ _
    | bl =>
      obtain ⟨_,rfl⟩ := ru
      cases rv
      exact SeqAt.RcAt.int_bool _ _ _
    | int =>
      obtain ⟨_,rfl⟩ := ru
      obtain ⟨_,rfl⟩ := rv
      exact SeqAt.RcAt.int_int _ _ _ _
    | str =>
      obtain ⟨_,rfl⟩ := ru
      obtain ⟨_,rfl⟩ := rv
      exact SeqAt.RcAt.int_str _ _ _ _
    | @tup m p' ys es e1 hl1 h1 =>
      obtain ⟨_,rfl⟩ := ru
      cases rv
      obtain ⟨jts,r2,pl',_⟩ := I.tuple (SqT.of e1)
      exact SeqAt.RcAt.int_tuple _ _ pl' (by omega)
    | @lst m p' ys es e1 hl1 h1 =>
      obtain ⟨_,rfl⟩ := ru
      cases rv
      obtain ⟨jts,r2,pl',_⟩ := I.list (SqL.of e1)
      exact SeqAt.RcAt.int_list _ _ pl'.isList (by omega)
  | str =>
    cases q with
    | non =>
      obtain ⟨_,rfl⟩ := ru
      cases rv
      exact SeqAt.RcAt.str_none _ _
    | bl =>
      obtain ⟨_,rfl⟩ := ru
      cases rv
      exact SeqAt.RcAt.str_bool _ _ _
    | int =>
      obtain ⟨_,rfl⟩ := ru
      obtain ⟨_,rfl⟩ := rv
      exact SeqAt.RcAt.str_int _ _ _ _
    | str =>
      obtain ⟨_,rfl⟩ := ru
      obtain ⟨_,rfl⟩ := rv
      exact SeqAt.RcAt.str_str _ _ _ _
    | @tup m p' ys es e1 hl1 h1 =>
      obtain ⟨_,rfl⟩ := ru
      cases rv
      obtain ⟨jts,r2,pl',_⟩ := I.tuple (SqT.of e1)
      exact SeqAt.RcAt.str_tuple _ _ pl' (by omega)
    | @lst m p' ys es e1 hl1 h1 =>
      obtain ⟨_,rfl⟩ := ru
      cases rv
      obtain ⟨jts,r2,pl',_⟩ := I.list (SqL.of e1)
      exact SeqAt.RcAt.str_list _ _ pl'.isList (by omega)
  | @tup n p xs ds e0 hl h =>
    cases q with
    | non =>
      cases ru
      cases rv
      obtain ⟨its,r1,pl,_⟩ := I.tuple (SqT.of e0)
      exact SeqAt.RcAt.tuple_none pl (by omega)
    | bl =>
      cases ru
      cases rv
      obtain ⟨its,r1,pl,_⟩ := I.tuple (SqT.of e0)
      exact SeqAt.RcAt.tuple_bool _ pl (by omega)
    | int =>
      cases ru
      obtain ⟨_,rfl⟩ := rv
      obtain ⟨its,r1,pl,_⟩ := I.tuple (SqT.of e0)
      exact SeqAt.RcAt.tuple_int _ _ pl (by omega)
    | str =>
      cases ru
      obtain ⟨_,rfl⟩ := rv
      obtain ⟨its,r1,pl,_⟩ := I.tuple (SqT.of e0)
      exact SeqAt.RcAt.tuple_str _ _ pl (by omega)
    | @tup m p' ys es e1 hl1 h1 =>
      cases ru
      cases rv
      obtain ⟨its,r1,pl,_⟩ := I.tuple (SqT.of e0)
      obtain ⟨jts,r2,pl',_⟩ := I.tuple (SqT.of e1)
      have y := SeqAt.RcAt.tuples (A := A) (e := fun j => deq (ds.getD j .non) (es.getD j .non)) pl pl' (by omega) (elts_at r1 r2 hl hl1 fun j x y d e u w a b c k ra rb => (h j x d a c).eqAt (h1 j y e b k) I ra rb (by show A.units + 1 + _ < cLine; omega))
      rw [List.size_toArray,List.size_toArray,← r1.length,← r2.length,hl,hl1,deqs_all] at y
      exact y
    | @lst m p' ys es e1 hl1 h1 =>
      cases ru
      cases rv
      obtain ⟨its,r1,pl,_⟩ := I.tuple (SqT.of e0)
      obtain ⟨jts,r2,pl',_⟩ := I.list (SqL.of e1)
      exact SeqAt.RcAt.tuple_list pl pl'.isList (by omega)
  | @lst n p xs ds e0 hl h =>
    cases q with
    | non =>
      cases ru
      cases rv
      obtain ⟨its,r1,pl,_⟩ := I.list (SqL.of e0)
      exact SeqAt.RcAt.list_none pl.isList (by omega)
    | bl =>
      cases ru
      cases rv
      obtain ⟨its,r1,pl,_⟩ := I.list (SqL.of e0)
      exact SeqAt.RcAt.list_bool _ pl.isList (by omega)
    | int =>
      cases ru
      obtain ⟨_,rfl⟩ := rv
      obtain ⟨its,r1,pl,_⟩ := I.list (SqL.of e0)
      exact SeqAt.RcAt.list_int _ _ pl.isList (by omega)
    | str =>
      cases ru
      obtain ⟨_,rfl⟩ := rv
      obtain ⟨its,r1,pl,_⟩ := I.list (SqL.of e0)
      exact SeqAt.RcAt.list_str _ _ pl.isList (by omega)
    | @tup m p' ys es e1 hl1 h1 =>
      cases ru
      cases rv
      obtain ⟨its,r1,pl,_⟩ := I.list (SqL.of e0)
      obtain ⟨jts,r2,pl',_⟩ := I.tuple (SqT.of e1)
      exact SeqAt.RcAt.list_tuple pl.isList pl' (by omega)
    | @lst m p' ys es e1 hl1 h1 =>
      cases ru
      cases rv
      obtain ⟨its,r1,pl,_⟩ := I.list (SqL.of e0)
      obtain ⟨jts,r2,pl',_⟩ := I.list (SqL.of e1)
      have g1 := r1.length
      have g2 := r2.length
      by_cases hz : ds.length = es.length
      · have y := SeqAt.RcAt.lists (A := A) (e := fun j => deq (ds.getD j .non) (es.getD j .non)) pl.isList pl'.isList (by rw [List.size_toArray,List.size_toArray]; omega) (by omega) (elts_at r1 r2 hl hl1 fun j x y d e u w a b c k ra rb => (h j x d a c).eqAt (h1 j y e b k) I ra rb (by show A.units + 1 + _ < cLine; omega))
        rw [List.size_toArray,← r1.length,hl,deqs_all' hz] at y
        exact y
      · rw [show deq (.lst ds) (.lst es) = false from deqs_len hz]
        exact SeqAt.RcAt.lists_lengths pl.isList pl'.isList (by rw [List.size_toArray,List.size_toArray]; simp; omega) (by omega)
theorem Rp.rcNeAt {A : Around} {n m : Nat} {x y : V} {d e : D} {u v : Value} (r : Rp H n x d) (q : Rp H m y e) (I : Inv X pins σ H s) (ru : RelV x u) (rv : RelV y v) (hu : A.units + n + 1 < cLine) : SeqAt.RcNeAt A s u v (!(deq d e)) := by
  cases r with
  | non =>
    cases q with
    | non =>
      cases ru
      cases rv
      exact SeqAt.RcNeAt.none_none
    | bl =>
      cases ru
      cases rv
      exact SeqAt.RcNeAt.none_bool _
    | int =>
      cases ru
      obtain ⟨_,rfl⟩ := rv
      exact SeqAt.RcNeAt.none_int _ _
    | str =>
      cases ru
      obtain ⟨_,rfl⟩ := rv
      exact SeqAt.RcNeAt.none_str _ _
    | @tup m p' ys es e1 hl1 h1 =>
      cases ru
      cases rv
      obtain ⟨jts,r2,pl',_⟩ := I.tuple (SqT.of e1)
      exact SeqAt.RcNeAt.none_tuple pl' (by omega)
    | @lst m p' ys es e1 hl1 h1 =>
      cases ru
      cases rv
      obtain ⟨jts,r2,pl',_⟩ := I.list (SqL.of e1)
      exact SeqAt.RcNeAt.none_list pl'.isList (by omega)
  | bl =>
    cases q with
    | non =>
      cases ru
      cases rv
      exact SeqAt.RcNeAt.bool_none _
    | bl =>
      cases ru
      cases rv
      exact SeqAt.RcNeAt.bool_bool _ _
    | int =>
      cases ru
      obtain ⟨_,rfl⟩ := rv
      exact SeqAt.RcNeAt.bool_int _ _ _
    | str =>
      cases ru
      obtain ⟨_,rfl⟩ := rv
      exact SeqAt.RcNeAt.bool_str _ _ _
    | @tup m p' ys es e1 hl1 h1 =>
      cases ru
      cases rv
      obtain ⟨jts,r2,pl',_⟩ := I.tuple (SqT.of e1)
      exact SeqAt.RcNeAt.bool_tuple _ pl' (by omega)
    | @lst m p' ys es e1 hl1 h1 =>
      cases ru
      cases rv
      obtain ⟨jts,r2,pl',_⟩ := I.list (SqL.of e1)
      exact SeqAt.RcNeAt.bool_list _ pl'.isList (by omega)
  | int =>
    cases q with
    | non =>
      obtain ⟨_,rfl⟩ := ru
      cases rv
      exact SeqAt.RcNeAt.int_none _ _
    | bl =>
      obtain ⟨_,rfl⟩ := ru
      cases rv
      exact SeqAt.RcNeAt.int_bool _ _ _
    | int =>
      obtain ⟨_,rfl⟩ := ru
      obtain ⟨_,rfl⟩ := rv
      exact SeqAt.RcNeAt.int_int _ _ _ _
    | str =>
      obtain ⟨_,rfl⟩ := ru
      obtain ⟨_,rfl⟩ := rv
      exact SeqAt.RcNeAt.int_str _ _ _ _
    | @tup m p' ys es e1 hl1 h1 =>
      obtain ⟨_,rfl⟩ := ru
      cases rv
      obtain ⟨jts,r2,pl',_⟩ := I.tuple (SqT.of e1)
      exact SeqAt.RcNeAt.int_tuple _ _ pl' (by omega)
    | @lst m p' ys es e1 hl1 h1 =>
      obtain ⟨_,rfl⟩ := ru
      cases rv
      obtain ⟨jts,r2,pl',_⟩ := I.list (SqL.of e1)
      exact SeqAt.RcNeAt.int_list _ _ pl'.isList (by omega)
  | str =>
    cases q with
    | non =>
      obtain ⟨_,rfl⟩ := ru
      cases rv
      exact SeqAt.RcNeAt.str_none _ _
    | bl =>
      obtain ⟨_,rfl⟩ := ru
      cases rv
      exact SeqAt.RcNeAt.str_bool _ _ _
    | int =>
      obtain ⟨_,rfl⟩ := ru
      obtain ⟨_,rfl⟩ := rv
      exact SeqAt.RcNeAt.str_int _ _ _ _
    | str =>
      obtain ⟨_,rfl⟩ := ru
      obtain ⟨_,rfl⟩ := rv
      exact SeqAt.RcNeAt.str_str _ _ _ _
    | @tup m p' ys es e1 hl1 h1 =>
      obtain ⟨_,rfl⟩ := ru
      cases rv
      obtain ⟨jts,r2,pl',_⟩ := I.tuple (SqT.of e1)
      exact SeqAt.RcNeAt.str_tuple _ _ pl' (by omega)
    | @lst m p' ys es e1 hl1 h1 =>
      obtain ⟨_,rfl⟩ := ru
      cases rv
      obtain ⟨jts,r2,pl',_⟩ := I.list (SqL.of e1)
      exact SeqAt.RcNeAt.str_list _ _ pl'.isList (by omega)
  | @tup n p xs ds e0 hl h =>
    cases q with
    | non =>
      cases ru
      cases rv
      obtain ⟨its,r1,pl,_⟩ := I.tuple (SqT.of e0)
      exact SeqAt.RcNeAt.tuple_none pl (by omega)
    | bl =>
      cases ru
      cases rv
      obtain ⟨its,r1,pl,_⟩ := I.tuple (SqT.of e0)
      exact SeqAt.RcNeAt.tuple_bool _ pl (by omega)
    | int =>
      cases ru
      obtain ⟨_,rfl⟩ := rv
      obtain ⟨its,r1,pl,_⟩ := I.tuple (SqT.of e0)
      exact SeqAt.RcNeAt.tuple_int _ _ pl (by omega)
    | str =>
      cases ru
      obtain ⟨_,rfl⟩ := rv
      obtain ⟨its,r1,pl,_⟩ := I.tuple (SqT.of e0)
      exact SeqAt.RcNeAt.tuple_str _ _ pl (by omega)
    | @tup m p' ys es e1 hl1 h1 =>
      cases ru
      cases rv
      obtain ⟨its,r1,pl,_⟩ := I.tuple (SqT.of e0)
      obtain ⟨jts,r2,pl',_⟩ := I.tuple (SqT.of e1)
      have y := SeqAt.RcNeAt.tuples (A := A) (e := fun j => deq (ds.getD j .non) (es.getD j .non)) pl pl' (by omega) (elts_at r1 r2 hl hl1 fun j x y d e u w a b c k ra rb => (h j x d a c).eqAt (h1 j y e b k) I ra rb (by show A.units + 1 + _ < cLine; omega))
      rw [List.size_toArray,List.size_toArray,← r1.length,← r2.length,hl,hl1,deqs_all] at y
      exact y
    | @lst m p' ys es e1 hl1 h1 =>
      cases ru
      cases rv
      obtain ⟨its,r1,pl,_⟩ := I.tuple (SqT.of e0)
      obtain ⟨jts,r2,pl',_⟩ := I.list (SqL.of e1)
      exact SeqAt.RcNeAt.tuple_list pl pl'.isList (by omega)
  | @lst n p xs ds e0 hl h =>
    cases q with
    | non =>
      cases ru
      cases rv
      obtain ⟨its,r1,pl,_⟩ := I.list (SqL.of e0)
      exact SeqAt.RcNeAt.list_none pl.isList (by omega)
    | bl =>
      cases ru
      cases rv
      obtain ⟨its,r1,pl,_⟩ := I.list (SqL.of e0)
      exact SeqAt.RcNeAt.list_bool _ pl.isList (by omega)
    | int =>
      cases ru
      obtain ⟨_,rfl⟩ := rv
      obtain ⟨its,r1,pl,_⟩ := I.list (SqL.of e0)
      exact SeqAt.RcNeAt.list_int _ _ pl.isList (by omega)
    | str =>
      cases ru
      obtain ⟨_,rfl⟩ := rv
      obtain ⟨its,r1,pl,_⟩ := I.list (SqL.of e0)
      exact SeqAt.RcNeAt.list_str _ _ pl.isList (by omega)
    | @tup m p' ys es e1 hl1 h1 =>
      cases ru
      cases rv
      obtain ⟨its,r1,pl,_⟩ := I.list (SqL.of e0)
      obtain ⟨jts,r2,pl',_⟩ := I.tuple (SqT.of e1)
      exact SeqAt.RcNeAt.list_tuple pl.isList pl' (by omega)
    | @lst m p' ys es e1 hl1 h1 =>
      cases ru
      cases rv
      obtain ⟨its,r1,pl,_⟩ := I.list (SqL.of e0)
      obtain ⟨jts,r2,pl',_⟩ := I.list (SqL.of e1)
      have g1 := r1.length
      have g2 := r2.length
      by_cases hz : ds.length = es.length
      · have y := SeqAt.RcNeAt.lists (A := A) (e := fun j => deq (ds.getD j .non) (es.getD j .non)) pl.isList pl'.isList (by rw [List.size_toArray,List.size_toArray]; omega) (by omega) (elts_at r1 r2 hl hl1 fun j x y d e u w a b c k ra rb => (h j x d a c).eqAt (h1 j y e b k) I ra rb (by show A.units + 1 + _ < cLine; omega))
        rw [List.size_toArray,← r1.length,hl,deqs_all' hz] at y
        exact y
      · rw [show deq (.lst ds) (.lst es) = false from deqs_len hz]
        exact SeqAt.RcNeAt.lists_lengths pl.isList pl'.isList (by rw [List.size_toArray,List.size_toArray]; simp; omega) (by omega)
end
section
variable {X : Cx}
def rEqD (neg : Bool) : R2 := fun x y H Q => ∃ d e,Rp H 9 x d ∧ Rp H 9 y e ∧ Q (.bl (if neg then !(deq d e) else deq d e)) H
theorem op_eqD (hu : X.A.units + 10 < cLine) : OpR X (compareOp .Eq) (rEqD false) := by
  intro pins s σ H x y v u Q I rx ry h
  obtain ⟨d,e,rd,re,k⟩ := h
  exact rd.rcAt re I rx ry (by omega) _ _ _ _ ⟨.bl _,H,I,rfl,k⟩
theorem op_neD (hu : X.A.units + 10 < cLine) : OpR X (compareOp .NotEq) (rEqD true) := by
  intro pins s σ H x y v u Q I rx ry h
  obtain ⟨d,e,rd,re,k⟩ := h
  exact rd.rcNeAt re I rx ry (by omega) _ _ _ _ ⟨.bl _,H,I,rfl,k⟩
end
section
variable {H : Hp} {n : Nat} {p : Addr} {x y z w : V} {a b c d : D}
theorem Rp.t2 (e : H p = some (.tup [x,y])) (ha : Rp H n x a) (hb : Rp H n y b) : Rp H (n + 1) (.ref p) (.tup [a,b]) := .tup e rfl fun j x d h k => by
  match j with
  | 0 => cases h; cases k; exact ha
  | 1 => cases h; cases k; exact hb
  | j + 2 => simp at h
theorem Rp.l0 (e : H p = some (.lst [])) : Rp H (n + 1) (.ref p) (.lst []) := .lst e rfl fun j x d h => by simp at h
mutual
theorem deq_self : ∀ d : D,deq d d = true
  | .non => rfl
  | .bl b => by simp [deq]
  | .int i => by simp [deq]
  | .str x => by simp [deq]
  | .tup ds => by simp only [deq]; exact deqs_same ds
  | .lst ds => by simp only [deq]; exact deqs_same ds
theorem deqs_same : ∀ ds : List D,deqs ds ds = true
  | [] => by simp [deqs]
  | d :: ds => by simp only [deqs,Bool.and_eq_true]; exact ⟨deq_self d,deqs_same ds⟩
end
end
end L2
namespace L2
open PySem PySem.Spec PyProof.Rows
section
variable {κ : Type} [DecidableEq κ]
def valV (kvs : List (κ × V)) (k : κ) : Option V := (kvs.find? fun kv => decide (kv.1 = k)).map (·.2)
def putK (kvs : List (κ × V)) (k : κ) (v : V) : List (κ × V) :=
  if (kvs.any fun kv => decide (kv.1 = k)) = true then kvs.map (fun kv => if kv.1 = k then (kv.1,v) else kv) else kvs ++ [(k,v)]
theorem valV_pos {p : κ × V} {r : List (κ × V)} {k : κ} (e : p.1 = k) : valV (p :: r) k = some p.2 := by simp [valV,List.find?_cons,e]
theorem valV_neg {p : κ × V} {r : List (κ × V)} {k : κ} (e : ¬ p.1 = k) : valV (p :: r) k = valV r k := by simp [valV,List.find?_cons,e]
theorem valV_any (k : κ) : ∀ kvs : List (κ × V),(kvs.any fun kv => decide (kv.1 = k)) = (valV kvs k).isSome
  | [] => rfl
  | p :: r => by
    rw [List.any_cons]
    by_cases e : p.1 = k
    · simp only [valV_pos e,decide_eq_true e,Bool.true_or,Option.isSome_some]
    · rw [valV_neg e,decide_eq_false e,Bool.false_or]; exact valV_any k r
theorem length_putK (kvs : List (κ × V)) (k : κ) (v : V) : (putK kvs k v).length ≤ kvs.length + 1 := by
  unfold putK
  split
  · rw [List.length_map]; omega
  · rw [List.length_append,List.length_cons,List.length_nil]; omega
theorem putK_new {kvs : List (κ × V)} {k : κ} (v : V) (h : valV kvs k = none) : putK kvs k v = kvs ++ [(k,v)] := by
  unfold putK
  rw [valV_any,h]
  exact if_neg (by decide)
theorem RelO.isSome_eq {o : Option V} {u : Option Value} (r : RelO o u) : o.isSome = u.isSome := by
  cases o with
  | none => cases u with
    | none => rfl
    | some _ => exact (show False from r).elim
  | some _ => cases u with
    | none => exact (show False from r).elim
    | some _ => rfl
theorem KV.val {kvs : List (κ × V)} {vs : List (κ × Value)} (r : KV kvs vs) (k : κ) : RelO (valV kvs k) (valueAt vs k) := by
  unfold KV at r
  induction r with
  | nil => exact True.intro
  | @cons p q ps qs h t ih =>
    obtain ⟨h1,h2⟩ := h
    by_cases e : p.1 = k
    · have e' : q.1 = k := h1.symm.trans e
      have b : valueAt (q :: qs) k = some q.2 := by simp [valueAt,List.find?_cons,e']
      rw [valV_pos e,b]; exact h2
    · have e' : ¬ q.1 = k := fun z => e (h1.trans z)
      have b : valueAt (q :: qs) k = valueAt qs k := by simp [valueAt,List.find?_cons,e']
      rw [valV_neg e,b]; exact ih
theorem KV.any {kvs : List (κ × V)} {vs : List (κ × Value)} (r : KV kvs vs) (k : κ) : (kvs.any fun kv => decide (kv.1 = k)) = vs.any fun kv => decide (kv.1 = k) := by
  unfold KV at r
  induction r with
  | nil => rfl
  | cons h t ih => rw [List.any_cons,List.any_cons,ih,h.1]
theorem KV.repl {kvs : List (κ × V)} {vs : List (κ × Value)} (r : KV kvs vs) (k : κ) {y : V} {u : Value} (ry : RelV y u) :
    KV (kvs.map fun kv => if kv.1 = k then (kv.1,y) else kv) (vs.map fun kv => if kv.1 = k then (kv.1,u) else kv) := by
  unfold KV at r ⊢
  induction r with
  | nil => exact .nil
  | @cons p q ps qs h t ih =>
    rw [List.map_cons,List.map_cons]
    refine .cons ?_ ih
    obtain ⟨h1,h2⟩ := h
    by_cases e : p.1 = k
    · rw [if_pos e,if_pos (h1.symm.trans e)]; exact ⟨h1,ry⟩
    · rw [if_neg e,if_neg (fun z => e (h1.trans z))]; exact ⟨h1,h2⟩
theorem KV.put {kvs : List (κ × V)} {vs : List (κ × Value)} (r : KV kvs vs) (k : κ) {y : V} {u : Value} (ry : RelV y u) : KV (putK kvs k y) (stored vs k u) := by
  unfold putK stored
  rw [r.any k]
  by_cases e : (vs.any fun kv => decide (kv.1 = k)) = true
  · rw [if_pos e,if_pos e]; exact r.repl k ry
  · rw [if_neg e,if_neg e]; exact Paired.snoc r ⟨rfl,ry⟩
theorem KV.length {kvs : List (κ × V)} {vs : List (κ × Value)} (r : KV kvs vs) : kvs.length = vs.length := Paired.length r
end
theorem kV_is {P : Program} {w : World} {k : Key} {u : Value} (r : RelV (kV k) u) : (mixKind P w).is k u = true := by
  cases k with
  | inl i => obtain ⟨t,e⟩ := (show ∃ t,u = Value.int i t from r); subst e; exact mixKind_int P w i t
  | inr x => obtain ⟨t,e⟩ := (show ∃ t,u = Value.str x t from r); subst e; exact mixKind_str P w x t
theorem items_are {P : Program} {w : World} : ∀ {ks : List Key} {us : List Value},Vals (ks.map kV) us → ItemsAre (mixKind P w) ks us
  | [],_,r => by rw [List.map_nil] at r; cases r; exact .nil
  | k :: ks,_,r => by
    rw [List.map_cons] at r
    cases r with
    | cons h t => exact .cons (kV_is h) (items_are t)
abbrev KT (H : Hp) : List (List Key × V) → List (List Key × Addr × Value) → Prop := Paired fun p q => p.1 = q.1 ∧ H q.2.1 = some (.tup (p.1.map kV)) ∧ RelV p.2 q.2.2
theorem KT.val {H : Hp} {kvs : List (List Key × V)} {xs : List (List Key × Addr × Value)} (r : KT H kvs xs) (k : List Key) : RelO (valV kvs k) ((atKey xs k).map (·.2)) := by
  induction r with
  | nil => exact True.intro
  | @cons p q ps qs h t ih =>
    obtain ⟨h1,_,h2⟩ := h
    by_cases e : p.1 = k
    · have e' : q.1 = k := h1.symm.trans e
      have b : atKey (q :: qs) k = some q.2 := by simp [atKey,List.find?_cons,e']
      rw [valV_pos e,b]; exact h2
    · have e' : ¬ q.1 = k := fun z => e (h1.trans z)
      have b : atKey (q :: qs) k = atKey qs k := by simp [atKey,List.find?_cons,e']
      rw [valV_neg e,b]; exact ih
theorem KT.repl {H : Hp} {kvs : List (List Key × V)} {xs : List (List Key × Addr × Value)} (r : KT H kvs xs) (k : List Key) {y : V} {u : Value} (ry : RelV y u) :
    KT H (kvs.map fun kv => if kv.1 = k then (kv.1,y) else kv) (xs.map (putAt k u)) := by
  induction r with
  | nil => exact .nil
  | @cons p q ps qs h t ih =>
    rw [List.map_cons,List.map_cons]
    refine .cons ?_ ih
    obtain ⟨h1,h2,h3⟩ := h
    unfold putAt
    by_cases e : p.1 = k
    · rw [if_pos e,if_pos (h1.symm.trans e)]; exact ⟨h1,h2,ry⟩
    · rw [if_neg e,if_neg (fun z => e (h1.trans z))]; exact ⟨h1,h2,h3⟩
theorem KT.put {H : Hp} {kvs : List (List Key × V)} {xs : List (List Key × Addr × Value)} (r : KT H kvs xs) (k : List Key) {b : Addr} {y : V} {u : Value} (hb : H b = some (.tup (k.map kV))) (ry : RelV y u) :
    KT H (putK kvs k y) (storedH xs k b u) := by
  have e : (kvs.any fun kv => decide (kv.1 = k)) = (atKey xs k).isSome := by
    rw [valV_any,(r.val k).isSome_eq,Option.isSome_map]
  unfold putK storedH
  rw [e]
  by_cases q : (atKey xs k).isSome = true
  · rw [if_pos q,if_pos q]; exact r.repl k ry
  · rw [if_neg q,if_neg q]; exact Paired.snoc r ⟨rfl,hb,ry⟩
theorem KT.keeps {H H' : Hp} {kvs : List (List Key × V)} {xs : List (List Key × Addr × Value)} (r : KT H kvs xs) (ht : ∀ b ys,H b = some (.tup ys) → H' b = some (.tup ys)) : KT H' kvs xs :=
  Paired.mapP r fun _ _ z => ⟨z.1,ht _ _ z.2.1,z.2.2⟩
section
variable {P : Program} {w : World} {H : Hp} {h : Heap} {a : Addr}
theorem rd_of {u : HO} (ok : HOk P w H h) (e : Rd H a u) : ObjOk P w H h a u := e.ok ok
theorem dk_rd {kvs : List (Key × V)} (ok : HOk P w H h) (e : Rd H a (.dK kvs)) : kvs.length ≤ sizeLine ∧ (a == sysModules) = false ∧ ∃ vs,KV kvs vs ∧ h.DictOf (mixKind P w) a vs :=
  show ObjOk P w H h a (.dK kvs) from rd_of ok e
theorem dk_of {kvs : List (Key × V)} (ok : HOk P w H h) (e : H a = some (.dK kvs)) : kvs.length ≤ sizeLine ∧ (a == sysModules) = false ∧ ∃ vs,KV kvs vs ∧ h.DictOf (mixKind P w) a vs := dk_rd ok (.inl e)
theorem key_of {ks : List Key} (ok : HOk P w H h) (e : H a = some (.tup (ks.map kV))) : (tupleKind (mixKind P w)).is h ks a := by
  obtain ⟨_,its,r,o,h1,h2,n,h3⟩ := (show ObjOk P w H h a (.tup (ks.map kV)) from ok a _ e)
  exact ⟨o,its.toArray,n,h1,h2,h3,by simpa using items_are r⟩
theorem dt_rd {kvs : List (List Key × V)} (ok : HOk P w H h) (e : Rd H a (.dT kvs)) : kvs.length ≤ sizeLine ∧ (a == sysModules) = false ∧
    ∃ xs,KT H kvs xs ∧ h.DictOfH (tupleKind (mixKind P w)) a xs := by
  obtain ⟨z,y,xs,r,o,es,ep,h1,h2,h3,h4,h5⟩ := (show ObjOk P w H h a (.dT kvs) from rd_of ok e)
  refine ⟨z,y,xs,r,o,es,ep,h1,h2,h3,h4,fun x hx => ?_,h5⟩
  have all : ∀ {l : List (List Key × V)} {m : List (List Key × Addr × Value)},KT H l m → ∀ x ∈ m,(tupleKind (mixKind P w)).is h x.1 x.2.1 := by
    intro l m q
    induction q with
    | nil => intro x hx; exact nomatch hx
    | @cons p q ps qs hq t ih =>
      intro x hx
      rcases List.mem_cons.mp hx with e | hx
      · subst e
        exact key_of ok (by rw [← hq.1]; exact hq.2.1)
      · exact ih x hx
  exact all r x hx
theorem dt_of {kvs : List (List Key × V)} (ok : HOk P w H h) (e : H a = some (.dT kvs)) : kvs.length ≤ sizeLine ∧ (a == sysModules) = false ∧
    ∃ xs,KT H kvs xs ∧ h.DictOfH (tupleKind (mixKind P w)) a xs := dt_rd ok (.inl e)
end
def DGet (H : Hp) (a : Addr) (y : V) (r : Option V) : Prop :=
  (∃ kvs k,Rd H a (.dK kvs) ∧ y = kV k ∧ r = valV kvs k) ∨ ∃ kvs k b,Rd H a (.dT kvs) ∧ y = .ref b ∧ H b = some (.tup (k.map kV)) ∧ r = valV kvs k
def DPut (H : Hp) (a : Addr) (y v : V) (H' : Hp) : Prop :=
  (∃ kvs k,H a = some (.dK kvs) ∧ y = kV k ∧ kvs.length < sizeLine ∧ H' = upd H a (.dK (putK kvs k v))) ∨
  ∃ kvs k b,H a = some (.dT kvs) ∧ y = .ref b ∧ H b = some (.tup (k.map kV)) ∧ kvs.length < sizeLine ∧ H' = upd H a (.dT (putK kvs k v))
theorem DGet.t {H : Hp} {a b : Addr} {kvs : List (List Key × V)} {k : List Key} (e : H a = some (.dT kvs)) (eb : H b = some (.tup (k.map kV))) : DGet H a (.ref b) (valV kvs k) := .inr ⟨kvs,k,b,.inl e,rfl,eb,rfl⟩
theorem DPut.t {H : Hp} {a b : Addr} {kvs : List (List Key × V)} {k : List Key} {v : V} (e : H a = some (.dT kvs)) (eb : H b = some (.tup (k.map kV))) (hl : kvs.length < sizeLine) :
    DPut H a (.ref b) v (upd H a (.dT (putK kvs k v))) := .inr ⟨kvs,k,b,e,rfl,eb,hl,rfl⟩
section
variable {X : Cx} {pins : List (Addr × Obj)} {σ : St} {H : Hp} {s : Shared} {a : Addr} {y v : V} {u r : Value} {o : Option V} {A : Around} {E : Value → Shared → Prop}
theorem Inv.big (I : Inv X pins σ H s) : sysModules < s.heap.objs.size := by
  have h : mainGlobals < s.heap.objs.size := (I.mod.glob.keeps I.bk).lt
  exact Nat.lt_trans (by decide) h
theorem d_getItem {Q : Value → Shared → Prop} (hu : A.units + 1 < cLine) (I : Inv X pins σ H s) (g : DGet H a y (some v)) (ry : RelV y u) (h : ∀ w' s',Inv X pins σ H s' → RelV v w' → Q w' s') :
    wpAny (model X.prog X.w) A (getItem (.ref a) u) Q E s := by
  rcases g with ⟨kvs,k,e,ey,l⟩ | ⟨kvs,k,b,e,ey,eb,l⟩
  · subst ey
    obtain ⟨z,hd,vs,rel,dd⟩ := dk_rd I.hok e
    obtain ⟨w',hw,rw'⟩ := RelO.some_of (v := v) (o := valueAt vs k) (by rw [l]; exact rel.val k)
    exact wpAny_getItem_of (kV_is ry) dd.mapOf hw (h w' _ (I.tok _) rw')
  · subst ey
    cases (show u = Value.ref b from ry)
    obtain ⟨z,hd,xs,rel,dd⟩ := dt_rd I.hok e
    obtain ⟨w',hw,rw'⟩ := RelO.some_of (v := v) (o := (atKey xs k).map (·.2)) (by rw [l]; exact rel.val k)
    obtain ⟨p,hp,hp2⟩ := Option.map_eq_some_iff.mp hw
    refine wpAny_getItem_heap (tupleKind_room_in1 hu) (key_of I.hok eb) dd hp ?_
    rw [hp2]
    exact h w' _ (I.tok _) rw'
theorem d_in {Q : Value → Shared → Prop} (hu : A.units + 1 < cLine) (I : Inv X pins σ H s) (g : DGet H a y o) (ry : RelV y u) (h : ∀ s',Inv X pins σ H s' → Q (.bool o.isSome) s') :
    wpAny (model X.prog X.w) A (compareOp .In u (.ref a)) Q E s := by
  rcases g with ⟨kvs,k,e,ey,l⟩ | ⟨kvs,k,b,e,ey,eb,l⟩
  · subst ey
    obtain ⟨z,hd,vs,rel,dd⟩ := dk_rd I.hok e
    refine wpAny_in_of (kV_is ry) hd dd.mapOf ?_
    rw [← (rel.val k).isSome_eq,← l]
    exact h _ (I.tok _)
  · subst ey
    cases (show u = Value.ref b from ry)
    obtain ⟨z,hd,xs,rel,dd⟩ := dt_rd I.hok e
    refine wpAny_in_heap (tupleKind_room_in1 hu) (key_of I.hok eb) hd dd ?_
    have q := (rel.val k).isSome_eq
    rw [Option.isSome_map] at q
    rw [← q,← l]
    exact h _ (I.tok _)
theorem d_notIn {Q : Value → Shared → Prop} (hu : A.units + 1 < cLine) (I : Inv X pins σ H s) (g : DGet H a y o) (ry : RelV y u) (h : ∀ s',Inv X pins σ H s' → Q (.bool (!o.isSome)) s') :
    wpAny (model X.prog X.w) A (compareOp .NotIn u (.ref a)) Q E s := by
  rcases g with ⟨kvs,k,e,ey,l⟩ | ⟨kvs,k,b,e,ey,eb,l⟩
  · subst ey
    obtain ⟨z,hd,vs,rel,dd⟩ := dk_rd I.hok e
    refine wpAny_notIn_of (kV_is ry) hd dd.mapOf ?_
    rw [← (rel.val k).isSome_eq,← l]
    exact h _ (I.tok _)
  · subst ey
    cases (show u = Value.ref b from ry)
    obtain ⟨z,hd,xs,rel,dd⟩ := dt_rd I.hok e
    refine wpAny_notIn_heap (tupleKind_room_in1 hu) (key_of I.hok eb) hd dd ?_
    have q := (rel.val k).isSome_eq
    rw [Option.isSome_map] at q
    rw [← q,← l]
    exact h _ (I.tok _)
theorem d_write {h' : Heap} {t' : Nat} {ob : HO} (I : Inv X pins σ H s) (mu : Mut (H a)) (hs : Heap.SameBut a s.heap h') (he : ∃ q,h'.get? a = some q) (new : ObjOk X.prog X.w (upd H a ob) h' a ob) :
    Inv X pins σ (upd H a ob) { s with heap := h',toks := t' } :=
  I.write (x := a) (e := a) mu (.inl rfl) (fun b q hb z => (hs.2 b hb).trans z) he new
theorem dk_new {P : Program} {w : World} {H' : Hp} {h' : Heap} {kvs : List (Key × V)} {vs : List (Key × Value)} (z : kvs.length ≤ sizeLine) (hd : (a == sysModules) = false) (rel : KV kvs vs) (dd : h'.DictOf (mixKind P w) a vs) :
    ObjOk P w H' h' a (.dK kvs) := ⟨z,hd,vs,rel,dd⟩
theorem d_setItem {H' : Hp} {Q : Unit → Shared → Prop} (hu : A.units + 1 < cLine) (I : Inv X pins σ H s) (g : DPut H a y v H') (ry : RelV y u) (rv : RelV v r) (h : ∀ s',Inv X pins σ H' s' → Q () s') :
    wpAny (model X.prog X.w) A (setItem (.ref a) u r) Q E s := by
  rcases g with ⟨kvs,k,e,ey,l,eH⟩ | ⟨kvs,k,b,e,ey,eb,l,eH⟩
  · subst ey eH
    obtain ⟨z,hd,vs,rel,dd⟩ := dk_of I.hok e
    have hz : vs.length ≤ sizeLine := by rw [← rel.length]; exact z
    have hl : (putK kvs k v).length ≤ sizeLine := by have := length_putK kvs k v; omega
    refine wpAny_setItem_pairs (hsz := hz) (kV_is ry) dd fun h' dd' hs => h _ ?_
    have he : ∃ q,h'.get? a = some q := let ⟨q,_,_,hq,_⟩ := dd'; ⟨q,hq⟩
    exact d_write I (by rw [e]; exact True.intro) hs he (dk_new hl hd (rel.put k rv) dd')
  · subst ey eH
    cases (show u = Value.ref b from ry)
    obtain ⟨z,hd,xs,rel,dd⟩ := dt_of I.hok e
    have hz : xs.length ≤ sizeLine := by rw [← Paired.length rel]; exact z
    have hl : (putK kvs k v).length ≤ sizeLine := by have := length_putK kvs k v; omega
    refine wpAny_setItem_heap (hsz := hz) (tupleKind_room_in1 hu) (key_of I.hok eb) dd fun h' dd' hs => h _ ?_
    obtain ⟨q,es,ep,hq,h2,h3,h4,_,h5⟩ := dd'
    refine d_write I (by rw [e]; exact True.intro) hs ⟨q,hq⟩ ⟨hl,hd,_,(rel.put k eb rv).keeps fun c ys ec => ?_,q,es,ep,hq,h2,h3,h4,h5⟩
    rw [upd_ne (ne_of ec e (fun z => nomatch z))]
    exact ec
end
section
variable {X : Cx} {pins : List (Addr × Obj)} {σ : St} {H : Hp} {s : Shared} {a : Addr} {kvs : List (Key × V)} {k : Key} {u : Value} {A : Around} {E : Value → Shared → Prop}
end
def NoSl (i : Expr) : Prop := ∀ ov iv,subscripted i false ov iv = operate [ov,iv] (getItem ov iv)
theorem subD_of {prog : Program} {w : World} {A : Around} {E : Value → Shared → Prop} {s : Shared} {env : Env} {value slice : Expr} {pos : Pos} {T id : String} {Q : Value → Shared → Prop}
    (hl : typeLookup (.type T) "__getitem__" = pure (some (.builtin id))) (hs : NoSl slice)
    (h : wpAny (model prog w) A (eval value env) (fun o s₁ => wpAny (model prog w) A (eval slice env) (fun i s₂ => s₂.TypeIs o T ∧ wpAny (model prog w) A (getItem o i) Q E s₂) E s₁) E s) :
    wpAny (model prog w) A (eval (.Subscript value slice pos) env) Q E s := by
  refine Subscript_ (wpAny_mono h (fun o s₁ h₁ => wpAny_mono h₁ (fun i s₂ h₂ => ?_) fun _ _ x => x) fun _ _ x => x)
  obtain ⟨hT,h₂⟩ := h₂
  unfold subscriptTail
  refine wpAny_bind ?_
  rw [getitemInPython_of_ne hT.not_modules]
  refine wpAny_bind (wpAny_specialOf hT hl ?_)
  have fin : wpAny (model prog w) A (subscripted slice false o i) (fun r s₃ => wpAny (model prog w) A (letTemporaryGo value o r >>= fun _ => pure r) Q E s₃) E s₂ := by
    rw [hs o i]
    exact wpAny_operating (wpAny_mono h₂ (fun r s₃ h₃ => wpAny_bind (wpAny_letTemporaryGo (wpAny_pure h₃))) fun _ _ x => x)
  first
    | exact wpAny_pure (wpAny_bind fin)
    | exact wpAny_bind (wpAny_pure (wpAny_bind fin))
    | exact wpAny_bind fin
theorem dict_typeIs {X : Cx} {pins : List (Addr × Obj)} {σ : St} {H : Hp} {s : Shared} {a : Addr} {y : V} {o : Option V} (I : Inv X pins σ H s) (g : DGet H a y o) : s.TypeIs (.ref a) "dict" := by
  rcases g with ⟨kvs,k,e,_,_⟩ | ⟨kvs,k,b,e,_,_,_⟩
  · obtain ⟨_,_,vs,_,dd⟩ := dk_rd I.hok e
    exact dd.typeIs
  · obtain ⟨_,_,xs,_,dd⟩ := dt_rd I.hok e
    exact dd.typeIs
def tDGet (td ty : TE) : TE := fun σ H Q => td σ H fun x H1 => ty σ H1 fun y H2 => ∃ a v,x = .ref a ∧ DGet H2 a y (some v) ∧ Q v H2
def tDIn (ty td : TE) : TE := fun σ H Q => ty σ H fun y H1 => td σ H1 fun x H2 => ∃ a o,x = .ref a ∧ DGet H2 a y o ∧ Q (.bl o.isSome) H2
def tDNotIn (ty td : TE) : TE := fun σ H Q => ty σ H fun y H1 => td σ H1 fun x H2 => ∃ a o,x = .ref a ∧ DGet H2 a y o ∧ Q (.bl (!o.isSome)) H2
def sDPut (td ty tv : TE) : TS := fun D σ H => tv σ H fun v H1 => td σ H1 fun x H2 => ty σ H2 fun y H3 => ∃ a H4,x = .ref a ∧ DPut H3 a y v H4 ∧ D.nx σ H4
section
variable {X : Cx} {o i e value : Expr} {pos pos' tpos : Pos} {td ty tv : TE}
theorem pe_dget (hu : X.A.units + 1 < cLine) (ho : PE X o td) (hi : PE X i ty) (hs : NoSl i) : PE X (.Subscript o i pos) (tDGet td ty) := by
  intro pins s σ H Q I h
  refine subD_of PySem.F.slot_dict_getitem.lookup hs (thn (ho pins s σ H _ I h) fun u s1 ⟨x,H1,I1,rx,q1⟩ => thn (hi pins s1 σ H1 _ I1 q1) fun iv s2 ⟨y,H2,I2,ry,a,v,ex,g,q2⟩ => ?_)
  subst ex
  obtain rfl : u = Value.ref a := rx
  exact ⟨dict_typeIs I2 g,d_getItem hu I2 g ry fun w' s3 I3 rw' => ⟨v,H2,I3,rw',q2⟩⟩
theorem pc_din (hu : X.A.units + 1 < cLine) (hi : PE X i ty) (ho : PE X o td) : PC X .In i o (tDIn ty td) := by
  intro pins s σ H Q I h
  refine thn (hi pins s σ H _ I h) fun iv s1 ⟨y,H1,I1,ry,q1⟩ => thn (ho pins s1 σ H1 _ I1 q1) fun u s2 ⟨x,H2,I2,rx,a,ov,ex,g,q2⟩ => ?_
  subst ex
  obtain rfl : u = Value.ref a := rx
  exact d_in hu I2 g ry fun s3 I3 => ⟨.bl ov.isSome,H2,I3,rfl,q2⟩
theorem pc_dnotin (hu : X.A.units + 1 < cLine) (hi : PE X i ty) (ho : PE X o td) : PC X .NotIn i o (tDNotIn ty td) := by
  intro pins s σ H Q I h
  refine thn (hi pins s σ H _ I h) fun iv s1 ⟨y,H1,I1,ry,q1⟩ => thn (ho pins s1 σ H1 _ I1 q1) fun u s2 ⟨x,H2,I2,rx,a,ov,ex,g,q2⟩ => ?_
  subst ex
  obtain rfl : u = Value.ref a := rx
  exact d_notIn hu I2 g ry fun s3 I3 => ⟨.bl (!ov.isSome),H2,I3,rfl,q2⟩
theorem ps_dput (hu : X.A.units + 1 < cLine) (ho : PE X o td) (hi : PE X i ty) (hv : PE X value tv) (hs : swapsWith value (some (.Subscript o i pos')) pos.line X.env = pure false) :
    PS X (.Assign [.Subscript o i pos'] value pos) (sDPut td ty tv) := by
  intro pins s σ H D I h
  refine wpAny_Assign_Subscript (thn (hv pins s σ H _ I h) fun r s1 ⟨v,H1,I1,rv,q1⟩ => thn (ho pins s1 σ H1 _ I1 q1) fun u s2 ⟨x,H2,I2,rx,q2⟩ => thn (hi pins s2 σ H2 _ I2 q2) fun iv s3 ⟨y,H3,I3,ry,a,H4,ex,g,q3⟩ => ?_) hs
  subst ex
  obtain rfl : u = Value.ref a := rx
  exact d_setItem hu I3 g ry rv fun s4 I4 => ⟨σ,H4,I4,q3⟩
end
theorem dt_empty {P : Program} {w : World} {H : Hp} (h : Heap) (hb : sysModules < h.objs.size) : ObjOk P w H (h.push { cls := .type "dict",data := .dict #[] }) h.objs.size (.dT []) :=
  ⟨Nat.zero_le _,beq_eq_false_iff_ne.mpr (Ne.symm (Nat.ne_of_lt hb)),[],.nil,_,#[],0,Heap.get?_push_size _ rfl,⟨rfl,rfl,rfl⟩,rfl,rfl,List.nodup_nil⟩
def tDNewT : TE := fun _ H Q => ∀ p,H p = none → Q (.ref p) (upd H p (.dT []))
section
variable {X : Cx} {pos : Pos}
theorem pe_dnewT : PE X (.Dict [] [] pos) tDNewT := fun pins s σ H Q I h =>
  wpAny_Dict_empty ⟨.ref s.heap.objs.size,_,I.laid (a := s.heap.objs.size) (o := .dT []) (t' := s.toks) (fun _ _ q => Heap.get?_push_of_some _ q) (Nat.le_refl _) (dt_empty s.heap I.big),rfl,h _ (I.hok.fresh (Nat.le_refl _))⟩
end
section
variable {X : Cx} {pins : List (Addr × Obj)} {σ : St} {H : Hp} {s : Shared} {a : Addr} {y d : V} {u r : Value} {o : Option V} {A : Around} {E : Value → Shared → Prop}
end
section
variable {X : Cx} {o e f : Expr} {apos cpos : Pos} {td ty tx : TE}
end
section
variable {X : Cx} {pins : List (Addr × Obj)} {σ : St} {H : Hp} {s : Shared} {a : Addr} {kvs : List (Key × V)} {A : Around} {E : Value → Shared → Prop}
end
section
variable {X : Cx} {pins : List (Addr × Obj)} {σ : St} {H : Hp} {s : Shared} {a : Addr} {y : V} {u : Value} {A : Around} {E : Value → Shared → Prop}
end
end L2
namespace L2
open PySem PySem.Spec PyProof.Rows
section
variable {prog : Program} {w : World} {A : Around} {E : Value → Shared → Prop} {s : Shared} {it d : Addr} {i ep : Nat} {es : Array DictEntry} {od : Obj}
theorem raw_iter {Q : Value → Shared → Prop} (hd : (d == sysModules) = false) (ho : s.heap.get? d = some od) (hc : od.cls = .type "dict") (hdat : od.data = .dict es ep)
    (hQ : Q (.ref s.heap.objs.size) { s with heap := s.heap.push { cls := .type "dict_keyiterator",data := .fields #[.ref d,.int 0 0,.int es.size 0,.int ep 0] } }) : wpAny (model prog w) A (pyIter (.ref d)) Q E s := by
  have hT : s.TypeIs (.ref d) "dict" := ⟨od,ho,hc⟩
  refine wpAny_pyIter_slot hT F.slot_dict_iter (wpAny_call_entry F.slot_dict_iter hT F.entry_dict_iter ?_ (F.args_dict_iter_1 _)); unfold Builtin.«dict.__iter__»
  refine wpAny_bind ?_; unfold Builtin.Dict.dictSlotNone
  refine wpAny_bind (wpAny_notOrdered_dict hT ?_); show wpAny _ _ (pure (Value.ref d)) _ _ s; refine wpAny_pure ?_; show wpAny _ _ (Builtin.Dict.showsAll d >>= _) _ _ s; unfold Builtin.Dict.showsAll
  rw [if_neg (by rw [hd]; exact Bool.false_ne_true)]; refine wpAny_bind (wpAny_pure (wpAny_bind (wpAny_dictEntries ho hdat (wpAny_bind (wpAny_dictEpoch ho hdat ?_)))))
  exact wpAny_bind (wpAny_newObj_type (wpAny_pure ⟨_,rfl,"dict_keyiterator",_,⟨_,Heap.get?_push_size _ rfl,rfl⟩,F.slot_dict_keyiterator_next.lookup,hQ⟩))
theorem raw_item {Q : Option Value → Shared → Prop} (hit : s.heap.IsKeyIter it d i es.size ep) (hod : s.heap.get? d = some od) (hdd : od.data = .dict es ep) (hi : i < es.size)
    (hQ : ∀ h',h'.IsKeyIter it d (i + 1) es.size ep → Heap.SameBut it s.heap h' → Q (some es[i].key) { s with heap := h' }) : wpAny (model prog w) A (pyNext (.ref it)) Q E s := by
  obtain ⟨o,ho,hc,hd⟩ := id hit; unfold pyNext
  refine wpAny_bind (wpAny_attempt (wpAny_callSpecial?_slot (name := Str.ofString "__next__") hit.typeIs F.slot_dict_keyiterator_next (wpAny_call_entry F.slot_dict_keyiterator_next hit.typeIs F.entry_dict_keyiterator_next ?_ (F.args_dict_keyiterator_next_1 _))))
  refine wpAny_bind (wpAny_pure (wpAny_bind (wpAny_bind ?_)))
  first | refine wpAny_bind (wpAny_typeNameOfWhole_keyiter hit.typeIs (wpAny_pure (wpAny_bind (wpAny_fieldsOf ho hd ?_)))) | refine wpAny_bind (wpAny_typeNameOf_keyiter hit.typeIs (wpAny_pure (wpAny_bind (wpAny_fieldsOf ho hd ?_))))
  simp only [show Builtin.Dict_items.ownsTuple "dict_keyiterator" = false by decide,Bool.false_eq_true,if_false]; show wpAny _ _ (if (Value.ref d == Value.none) = true then _ else _) _ _ s
  rw [if_neg (show ¬ ((Value.ref d == Value.none) = true) from Bool.false_ne_true)]; refine wpAny_bind (wpAny_pure (wpAny_bind (wpAny_dictEntries hod hdd ?_))); rw [if_neg (by simp)]
  refine wpAny_bind (wpAny_pure (wpAny_bind (wpAny_dictEpoch hod hdd ?_))); rw [if_neg (by simp)]; refine wpAny_pure ?_
  simp only [show ¬ ((i : Int) < 0) from by omega,if_false,Int.toNat_natCast,Array.getElem?_eq_getElem hi]; refine wpAny_bind ?_
  first | refine wpAny_bind (wpAny_typeNameOfWhole_keyiter hit.typeIs (wpAny_pure (wpAny_bind (wpAny_isOneOf_keyiter hit.typeIs ?_)))) | refine wpAny_bind (wpAny_typeNameOf_keyiter hit.typeIs (wpAny_pure (wpAny_bind (wpAny_isOneOf_keyiter hit.typeIs ?_))))
  show wpAny _ _ (setField (.ref it) 1 (rawInt ((i : Int) + 1)) >>= _) _ _ s; refine wpAny_bind (wpAny_setField ho hd (by simp) ?_)
  have hit' : (s.heap.update it (Obj.mapFields (·.setIfInBounds 1 (rawInt ((i : Int) + 1))))).IsKeyIter it d (i + 1) es.size ep := ⟨_,Heap.get?_update_self _ ho (Obj.isFreed_of_fields (Obj.data_mapFields hd _)),(Obj.cls_mapFields ..).trans hc,by rw [Obj.data_mapFields hd]; simp [rawInt]⟩
  refine wpAny_bind (wpAny_holding (wpAny_bind (wpAny_isOneOf_keyiter (s := { s with heap := s.heap.update it (Obj.mapFields (·.setIfInBounds 1 (rawInt ((i : Int) + 1)))) }) hit'.typeIs ?_))); show wpAny _ _ (pure es[i].key) _ _ _
  exact wpAny_pure (wpAny_pure ⟨_,rfl,wpAny_pure (hQ _ hit' (Heap.SameBut.update ..))⟩)
theorem raw_end {Q : Option Value → Shared → Prop} (hh : A.handled = none) (hit : s.heap.IsKeyIter it d i es.size ep) (hod : s.heap.get? d = some od) (hdd : od.data = .dict es ep) (hge : es.size ≤ i)
    (hQ : ∀ h',Heap.ExtBut it s.heap h' → Q none { s with heap := h' }) : wpAny (model prog w) A (pyNext (.ref it)) Q E s := by
  obtain ⟨o,ho,hc,hd⟩ := id hit; unfold pyNext
  refine wpAny_bind (wpAny_attempt (wpAny_callSpecial?_slot (name := Str.ofString "__next__") hit.typeIs F.slot_dict_keyiterator_next (wpAny_call_entry F.slot_dict_keyiterator_next hit.typeIs F.entry_dict_keyiterator_next ?_ (F.args_dict_keyiterator_next_1 _))))
  refine wpAny_bind (wpAny_pure (wpAny_bind (wpAny_bind ?_)))
  first | refine wpAny_bind (wpAny_typeNameOfWhole_keyiter hit.typeIs (wpAny_pure (wpAny_bind (wpAny_fieldsOf ho hd ?_)))) | refine wpAny_bind (wpAny_typeNameOf_keyiter hit.typeIs (wpAny_pure (wpAny_bind (wpAny_fieldsOf ho hd ?_))))
  simp only [show Builtin.Dict_items.ownsTuple "dict_keyiterator" = false by decide,Bool.false_eq_true,if_false]; show wpAny _ _ (if (Value.ref d == Value.none) = true then _ else _) _ _ s
  rw [if_neg (show ¬ ((Value.ref d == Value.none) = true) from Bool.false_ne_true)]; refine wpAny_bind (wpAny_pure (wpAny_bind (wpAny_dictEntries hod hdd ?_))); rw [if_neg (by simp)]
  refine wpAny_bind (wpAny_pure (wpAny_bind (wpAny_dictEpoch hod hdd ?_))); rw [if_neg (by simp)]; refine wpAny_pure ?_
  simp only [show ¬ ((i : Int) < 0) from by omega,if_false,Int.toNat_natCast,Array.getElem?_eq_none hge]; refine wpAny_bind ?_
  first | refine wpAny_bind (wpAny_typeNameOfWhole_keyiter hit.typeIs (wpAny_pure ?_)); show wpAny _ _ (setField (.ref it) 0 .none >>= _) _ _ s | refine wpAny_bind (wpAny_typeNameOf_keyiter hit.typeIs (wpAny_pure ?_)); show wpAny _ _ (setField (.ref it) 0 .none >>= _) _ _ s
  refine wpAny_bind (wpAny_setField ho hd (by simp) ?_); show wpAny _ _ (newExc (.type "StopIteration") [] >>= _) _ _ _; refine wpAny_bind ?_; simp only [newExc,newTuple]
  refine wpAny_bind (wpAny_newObj_type ?_ (by size_fits)); refine wpAny_bind (m := firstArgMember _ _) (wpAny_of_eq (a := Value.none) (by first | rfl | (simp only [firstArgMember]; rfl)) ?_)
  refine wpAny_newObj_type ?_ (by size_fits); simp only [raiseNew]; refine wpAny_bind (wpAny_handled ?_); rw [show A.in1.handled = none from hh]; refine wpAny_bind (wpAny_pure (wpAny_throw ?_))
  exact wpAny_bind (wpAny_isInstance (T := "StopIteration") (b := true) ⟨_,Heap.get?_push_size _ rfl,rfl⟩ isSubtype_stop (wpAny_pure (hQ _ (((Heap.SameBut.update ..).extBut.push _).push _))))
end
def Itd (a : Addr) (o : Obj) (kvs : List (List Key × V)) : It :=
  ⟨fun i H => H a = some (.frz o (.dT kvs)) ∧ i < kvs.length,fun i H x H' => H' = H ∧ ∃ k v b,kvs[i]? = some (k,v) ∧ x = .ref b ∧ H b = some (.tup (k.map kV)),fun i H => H a = some (.frz o (.dT kvs)) ∧ kvs.length ≤ i⟩
theorem frz_dict {P : Program} {w : World} {H : Hp} {h : Heap} {a : Addr} {o : Obj} {kvs : List (List Key × V)} {es : Array DictEntry} {ep : Nat} (k : HOk P w H h) (e : H a = some (.frz o (.dT kvs))) (d : o.data = .dict es ep) :
    h.get? a = some o ∧ o.cls = .type "dict" ∧ (a == sysModules) = false ∧ es.size = kvs.length ∧ ∀ (i : Nat) (hi : i < es.size),∃ q v b,kvs[i]? = some (q,v) ∧ es[i].key = .ref b ∧ H b = some (.tup (q.map kV)) := by
  obtain ⟨g,_,sm,xs,pr,o',es',ep',g',ex,d',el,_⟩ := (show h.get? a = some o ∧ ObjOk P w H h a (.dT kvs) from k a _ e)
  rw [g] at g'
  cases g'
  rw [d] at d'
  cases d'
  have len : es.size = kvs.length := by
    have := congrArg List.length el
    rw [List.length_map] at this
    rw [← Array.length_toList,this]
    exact (Paired.length pr).symm
  refine ⟨g,ex.1,sm,len,fun i hi => ?_⟩
  have hx : i < xs.length := by rw [← Paired.length pr,← len]; exact hi
  have get : ∀ {kvs : List (List Key × V)} {xs : List (List Key × Addr × Value)},Paired (fun (p : List Key × V) (q : List Key × Addr × Value) => p.1 = q.1 ∧ H q.2.1 = some (.tup (p.1.map kV)) ∧ RelV p.2 q.2.2) kvs xs → ∀ (i : Nat) (q : List Key × Addr × Value),xs[i]? = some q → ∃ v,kvs[i]? = some (q.1,v) ∧ H q.2.1 = some (.tup (q.1.map kV)) := by
    intro kvs xs pr
    induction pr with
    | nil => intro i q e; simp at e
    | cons a r ih =>
      intro i q e
      cases i with
      | zero =>
        simp at e
        subst e
        exact ⟨_,by rw [← a.1]; rfl,by rw [← a.1]; exact a.2.1⟩
      | succ j => exact ih j q (by simpa using e)
  obtain ⟨q,hq⟩ : ∃ q,xs[i]? = some q := ⟨xs[i],by simp [hx]⟩
  obtain ⟨v,e1,e2⟩ := get pr i q hq
  have e3 : es.toList[i]? = some (entryOfKey (tupleKind (mixKind P w)) q) := by rw [el,List.getElem?_map,hq]; rfl
  have e4 : es[i] = entryOfKey (tupleKind (mixKind P w)) q := by
    have : es.toList[i]? = some es[i] := by simp [hi]
    rw [this] at e3
    exact Option.some.inj e3
  exact ⟨q.1,v,q.2.1,e1,by rw [e4]; rfl,e2⟩
theorem turn_dict {P : Program} {w : World} {K : PySem.W.Frag} {tg : Expr} {kvs : List (List Key × V)} {es : Array DictEntry} {ep : Nat} {o : Obj} (a it : Addr) (hd : o.data = .dict es ep) : Turn P w K tg (Itd a o kvs) [it] it (fun i h => h.IsKeyIter it a i es.size ep) where
  mem := by simp
  obj := fun i h st b hb => by
    have e : b = it := by simpa using hb
    subst e
    obtain ⟨o,e,c,d⟩ := st
    exact ⟨o,e,fun v z => by rw [d] at z; cases z⟩
  keep := fun i h h' st k => st.at fun o e => k it (by simp) o e
  item := by
    intro X hP hw hK hc i pins s σ H E I hf st hg
    subst hP hw hK
    obtain ⟨e,hi⟩ := hg
    obtain ⟨g,gc,_,len,at'⟩ := frz_dict I.hok e hd
    obtain ⟨q,v,b,e1,e2,e3⟩ := at' i (by omega)
    obtain ⟨f0,f1,f2,f3,f4,f5⟩ := hf it (by simp)
    refine raw_item st g hd (by omega) fun h' st' sb => ?_
    have I1 : Inv X pins σ H { s with heap := h' } := I.turned (t' := s.toks) (fun b o hb e => (sb.2 b hb).trans e) f0 f1 f3 f4 f5
    obtain ⟨oi,ei,ci,di⟩ := id st'
    exact ⟨_,rfl,go_of (s := { s with heap := h' }) ei ci di (by decide) ⟨.ref b,H,I1,e2,⟨rfl,q,v,b,e1,rfl,e3⟩,st',fun b hb => (hf b hb).1⟩⟩
  done := by
    intro X hP hw hK hc i pins s σ H E I hf st hg
    subst hP hw hK
    obtain ⟨e,hi⟩ := hg
    obtain ⟨g,gc,_,len,_⟩ := frz_dict I.hok e hd
    obtain ⟨f0,f1,f2,f3,f4,f5⟩ := hf it (by simp)
    exact raw_end (I.ok.hd hc) st g hd (by omega) fun h' eb => ⟨rfl,I.turned (t' := s.toks) (fun b o hb e => eb b o hb e) f0 f1 f3 f4 f5⟩
  self := fun _ _ _ _ _ st h => wpAny_pyIter_keyiter st h
section
variable {X : Cx} {tg : Expr}
def iDict (tl : TE) : TI := fun σ H R => tl σ H fun x H1 => ∃ a o kvs,x = .ref a ∧ H1 a = some (.frz o (.dT kvs)) ∧ R (Itd a o kvs) H1
theorem pi_dict {l : Expr} {tl : TE} (hl : PE X l tl) : PI X tg l (iDict tl) := by
  intro pins s σ H R I h
  refine thn (hl pins s σ H _ I h) fun v s1 ⟨x,H1,I1,r1,q1⟩ => ?_
  obtain ⟨a,o,kvs,rfl,e,q⟩ := q1
  obtain rfl : v = Value.ref a := r1
  obtain ⟨es,ep,d⟩ : ∃ es ep,o.data = .dict es ep := by
    obtain ⟨g,_,_,xs,pr,o',es',ep',g',ex,d',_⟩ := (show s1.heap.get? a = some o ∧ ObjOk X.prog X.w H1 s1.heap a (.dT kvs) from I1.hok a _ e)
    rw [g] at g'
    cases g'
    exact ⟨_,_,d'⟩
  obtain ⟨g,gc,sm,len,_⟩ := frz_dict I1.hok e d
  refine raw_iter sm g gc d ?_
  refine ⟨s1.heap.objs.size,[s1.heap.objs.size],_,_,H1,rfl,I1.kept (t' := s1.toks) fun b o e => Heap.get?_push_of_some _ e,turn_dict a _ d,⟨_,Heap.get?_push_size _ rfl,rfl,rfl⟩,fun b hb => ?_,q⟩
  have e : b = s1.heap.objs.size := by simpa using hb
  subst e
  exact I1.fpOk (Nat.le_refl _) (I1.hok.fresh (Nat.le_refl _))
def tFrz (te : TE) : TE := fun σ H Q => te σ H fun x H1 => ∃ a kvs,x = .ref a ∧ H1 a = some (.dT kvs) ∧ ∀ o,Q (.ref a) (upd H1 a (.frz o (.dT kvs)))
theorem pe_frz {e : Expr} {te : TE} (h : PE X e te) : PE X e (tFrz te) := by
  intro pins s σ H Q I hq
  refine thn (h pins s σ H _ I hq) fun v s1 ⟨x,H1,I1,r1,a,kvs,ex,ea,k⟩ => ?_
  subst ex
  have ok := I1.hok a _ ea
  obtain ⟨_,_,_,_,o,_,_,g,_⟩ := (show ObjOk X.prog X.w H1 s1.heap a (.dT kvs) from ok)
  have tup : ∀ b xs,H1 b = some (.tup xs) → upd H1 a (.frz o (.dT kvs)) b = some (.tup xs) := fun b xs q => by
    rw [upd_ne (fun z => by rw [z,ea] at q; cases q)]; exact q
  have J : Inv X pins σ (upd H1 a (.frz o (.dT kvs))) { s1 with heap := s1.heap,toks := s1.toks } := I1.write (x := a) (e := a) (by rw [ea]; trivial) (.inl rfl) (fun _ _ _ q => q) ⟨o,g⟩
    ⟨g,ok.stay (fun _ _ _ q => q) (fun b q => by rw [upd_ne (fun z => by rw [z,ea] at q; cases q)]; exact q) tup⟩
  exact ⟨.ref a,_,J,r1,k o⟩
end
end L2
namespace L2
open PySem PySem.Spec PyProof.Rows PySem.W
abbrev KnO (o : Obj) : HO := .frz o (.ext fun _ => True)
theorem kn_ok {P : Program} {w : World} {H : Hp} {h : Heap} {a : Addr} {o : Obj} (e : h.get? a = some o) : ObjOk P w H h a (KnO o) := ⟨e,trivial,⟨o,e⟩,fun _ _ _ _ => trivial⟩
theorem kn_get {P : Program} {w : World} {H : Hp} {h : Heap} {a : Addr} {o : Obj} (k : HOk P w H h) (e : H a = some (KnO o)) : h.get? a = some o := (show h.get? a = some o ∧ _ from k a _ e).1
def CellAt (H : Hp) (c : Addr) (v : V) : Prop := ∃ o u,H c = some (KnO o) ∧ o.data = .cell (some u) ∧ RelV v u
def CodeK (H : Hp) (c : Addr) (q : Str) : Prop := ∃ o vs t,H c = some (KnO o) ∧ o.data = .fields vs ∧ vs[1]? = some (.str q t)
theorem CodeK.rec_ {P : Program} {w : World} {H : Hp} {h : Heap} {c : Addr} {q : Str} (x : CodeK H c q) (k : HOk P w H h) : h.CodeRec (.ref c) q := by
  obtain ⟨o,vs,t,e,d,g⟩ := x
  exact ⟨c,o,vs,t,rfl,kn_get k e,d,g⟩
def SameP (p : Addr) (H H' : Hp) : Prop := ∀ b o,b ≠ p → H b = some o → H' b = some o
def CodeF (K : Frag) (c p : Addr) : Prop :=
  ∃ o vs file tf flags tg inF text tt,K.lookup c = some o ∧ o.cls = .type "code" ∧ o.data = .fields vs ∧ vs[11]? = some (.ref p) ∧ vs.getD 11 .none = .ref p ∧ vs.getD 18 .none = .str file tf ∧
    vs.getD 7 .none = .int flags tg ∧ vs.getD 9 .none = .bool inF ∧ vs.getD 10 .none = .int text tt ∧ c ≠ p
theorem CodeF.hd {K : Frag} {c p : Addr} {h : Heap} (x : CodeF K c p) (X : K.In h) : CodeHd h c p := by
  obtain ⟨o,vs,file,tf,flags,tg,inF,text,tt,e,r⟩ := x
  exact ⟨o,vs,file,tf,flags,tg,inF,text,tt,X _ _ e,r⟩
def BltF (K : Frag) (mg : Str → Option Value) : Prop :=
  ∃ bm o,mg "__builtins__" = some (.ref bm) ∧ bm ≠ builtinsNs ∧ bm ≠ mainGlobals ∧ K.lookup bm = some o ∧ o.cls = .type "module" ∧ o.dict = some builtinsNs ∧ o.data = .plain
def Tab (H : Hp) (p : Addr) (ls : List (Pos × Str)) : Prop :=
  ∃ ps,H p = some (.tbl ps) ∧ TriplesOk ps.toList ∧ ∀ l ∈ ls,codeAmong l.1 ps.toList = none ∨ ∃ c,codeAmong l.1 ps.toList = some (.ref c) ∧ CodeK H c l.2
theorem Tab.same {H H' : Hp} {p : Addr} {ls : List (Pos × Str)} (t : Tab H p ls) (s : Same H H') : Tab H' p ls := by
  obtain ⟨ps,e,k,a⟩ := t
  refine ⟨ps,s _ _ e,k,fun l hl => (a l hl).imp_right ?_⟩
  rintro ⟨c,e2,o,vs,t,e3,r⟩
  exact ⟨c,e2,o,vs,t,s _ _ e3,r⟩
theorem Tab.other {H H' : Hp} {p q : Addr} {ls : List (Pos × Str)} {ps : Array Value} (t : Tab H p ls) (hq : H q = some (.tbl ps)) (ne : p ≠ q) (s : SameP q H H') : Tab H' p ls := by
  obtain ⟨ps',e,k,a⟩ := t
  refine ⟨ps',s _ _ ne e,k,fun l hl => (a l hl).imp_right ?_⟩
  rintro ⟨c,e2,o,vs,t,e3,r⟩
  refine ⟨c,e2,o,vs,t,s _ _ (fun z => ?_) e3,r⟩
  rw [z,hq] at e3
  cases e3
def LamAt (H : Hp) (f : Addr) (q : Str) (params : Arguments) (body : Expr) (scope : Scope) (clos : List (Str × Addr)) : Prop :=
  ∃ pm c ctv,H f = some (KnO (kla_obj "<lambda>" q params body scope clos pm c ctv)) ∧ CodeK H c q
theorem LamAt.same {H H' : Hp} {f : Addr} {q : Str} {params : Arguments} {body : Expr} {scope : Scope} {clos : List (Str × Addr)} (t : LamAt H f q params body scope clos) (s : ∀ b o,H b = some (KnO o) → H' b = some (KnO o)) : LamAt H' f q params body scope clos := by
  obtain ⟨pm,c,ctv,e,o,vs,t,e3,r⟩ := t
  exact ⟨pm,c,ctv,s _ _ e,o,vs,t,s _ _ e3,r⟩
theorem among_snoc_ne {pos pos' : Pos} {c : Value} (l : List Value) (h : TriplesOk l) (ne : ¬ (pos'.line = pos.line ∧ pos'.col = pos.col)) : codeAmong pos' (l ++ [rawInt pos.line,rawInt pos.col,c]) = codeAmong pos' l := by
  fun_induction TriplesOk l with
  | case1 =>
    show codeAmong pos' [rawInt pos.line,rawInt pos.col,c] = codeAmong pos' []
    simp only [rawInt,codeAmong]
    rw [if_neg]
    intro z
    rw [Bool.and_eq_true] at z
    have z1 := eq_of_beq z.1
    have z2 := eq_of_beq z.2
    exact ne ⟨by omega,by omega⟩
  | case2 a ta b tb c' rest ih =>
    show codeAmong pos' (.int a ta :: .int b tb :: c' :: (rest ++ [rawInt pos.line,rawInt pos.col,c])) = codeAmong pos' (.int a ta :: .int b tb :: c' :: rest)
    unfold codeAmong
    rw [ih h]
  | case3 l h1 h2 => exact h.elim
def tLam (p : Addr) (ls : List (Pos × Str)) (q : Str) (params : Arguments) (body : Expr) (scope : Scope) (clos : List (Str × Addr)) : TE := fun _ H Q =>
  Tab H p ls ∧ ∀ f H',SameP p H H' → Tab H' p ls → LamAt H' f q params body scope clos → H f = none → Q (.ref f) H'
section
variable {X : Cx} {params : Arguments} {body : Expr} {scope : Scope} {pos : Pos} {clos : List (Str × Addr)} {c p : Addr} {ls : List (Pos × Str)} {q : Str}
theorem pe_lam (hcl : closureFor scope X.env = pure clos) (hcode : X.env.code = .ref c) (C : CodeF X.K c p) (B : BltF X.K X.mg) (hdef : defaultsOf params X.env = ([],[])) (hq : q = X.env.qual ++ "<lambda>") (hm : (pos,q) ∈ ls)
    (hd : ∀ l ∈ ls,l ≠ (pos,q) → ¬ (l.1.line = pos.line ∧ l.1.col = pos.col)) : PE X (.Lambda params body scope pos) (tLam p ls q params body scope clos) := by
  intro pins s σ H Q I h
  obtain ⟨⟨ps,hp,tk,ok⟩,k⟩ := h
  subst hq
  have hP : s.heap.get? p = some (tabObj ps) := I.hok p _ hp
  have hg : s.heap.Ns mainGlobals X.mg := I.mod.glob.keeps I.bk
  have hgP : mainGlobals ≠ p := fun z => by
    obtain ⟨o,es,ep,e,d,_⟩ := hg
    rw [z,hP] at e; cases e; cases d
  obtain ⟨bm,ob,b1,b2,b3,b4,b5,b6,b7⟩ := B
  have hbm := I.kIn _ _ b4
  have hbP : bm ≠ p := fun z => by
    rw [z,hP] at hbm; cases hbm; cases b7
  have BA : s.heap.BuiltinsAt X.mg p := ⟨bm,ob,b1,b2,b3,hbP,hbm,b5,b6,b7⟩
  have CH := C.hd I.kIn
  refine kla_eval hdef ?_
  rcases ok _ hm with hn | ⟨c',hc',ck⟩
  · refine kla_makeFunction (mg := X.mg) hcl I.ok.glob hg hcode CH hP tk hn hgP BA fun c' ctv h' t' hx hge hlt hrec htb => ?_
    obtain ⟨c₂,oc,vs,t,e2,hoc,hd2,hv⟩ := hrec
    cases e2
    have hfo : h'.objs.size ≠ c' := Nat.ne_of_gt hlt
    have hpo : p < s.heap.objs.size := Heap.lt_size hP
    have pc : p ≠ c' := Nat.ne_of_lt (Nat.lt_of_lt_of_le hpo hge)
    have pf : p ≠ h'.objs.size := Nat.ne_of_lt (Nat.lt_trans (Nat.lt_of_lt_of_le hpo hge) hlt)
    have nc : H c' = none := I.hok.fresh hge
    have nf : H h'.objs.size = none := I.hok.fresh (Nat.le_of_lt (Nat.lt_of_le_of_lt hge hlt))
    generalize hps : ps ++ #[rawInt pos.line,rawInt pos.col,.ref c'] = ps' at htb
    generalize hfob : kla_obj "<lambda>" (X.env.qual ++ "<lambda>") params body scope clos ((X.mg "__name__").getD .none) c' ctv = fo at *
    have nfr : fo.isFreed = false := by rw [← hfob]; rfl
    have ext : ∀ b o,b ≠ p → s.heap.get? b = some o → (h'.push fo).get? b = some o := fun b o ne e => Heap.get?_push_of_some _ (hx b o ne e)
    let H' : Hp := upd (upd (upd H p (.tbl ps')) c' (KnO oc)) h'.objs.size (KnO fo)
    have Hf : H' h'.objs.size = some (KnO fo) := upd_same
    have Hc : H' c' = some (KnO oc) := (upd_ne hfo.symm).trans upd_same
    have Hp' : H' p = some (.tbl ps') := (upd_ne pf).trans ((upd_ne pc).trans upd_same)
    have Hb : ∀ b,b ≠ p → b ≠ c' → b ≠ h'.objs.size → H' b = H b := fun b z1 z2 z3 => (upd_ne z3).trans ((upd_ne z2).trans (upd_ne z1))
    have Hs : SameP p H H' := fun b o ne e => by
      rw [Hb b ne (fun z => by rw [z,nc] at e; cases e) (fun z => by rw [z,nf] at e; cases e)]; exact e
    have old : ∀ b o,s.heap.get? b = some o → b ≠ c' ∧ b ≠ h'.objs.size := fun b o e => ⟨Nat.ne_of_lt (Nat.lt_of_lt_of_le (Heap.lt_size e) hge),Nat.ne_of_lt (Nat.lt_trans (Nat.lt_of_lt_of_le (Heap.lt_size e) hge) hlt)⟩
    have npn : ∀ b,H b = none → b ≠ p := fun b n z => by rw [z,hp] at n; cases n
    have un : Un X.fs [] H H' s.heap (h'.push fo) := by
      refine ⟨fun b o e n _ _ => ext b o (npn b n) e,fun b o e n _ _ => ⟨o.slots,ext b o (npn b n) e⟩,fun b o e n _ => ?_,fun b o e _ => ?_,fun b xs e => Hs b _ (fun z => by rw [z,hp] at e; cases e) e,fun b o u e => Hs b _ (fun z => by rw [z,hp] at e; cases e) e,fun b ps2 e => ?_⟩
      · rw [Hb b (npn b n) (old b o e).1 (old b o e).2]; exact n
      · by_cases z : b = p
        · subst z; exact ⟨_,Heap.get?_push_of_some _ htb⟩
        · exact ⟨o,ext b o z e⟩
      · by_cases z : b = p
        · subst z
          rw [hp] at e; cases e
          exact ⟨_,by rw [Hp',← hps]⟩
        · exact ⟨#[],by rw [Hs b _ z e]; simp⟩
    have hok : HOk X.prog X.w H' (h'.push fo) := fun b u e => by
      by_cases z3 : b = h'.objs.size
      · subst z3
        rw [Hf] at e; cases e
        exact kn_ok (Heap.get?_push_size _ nfr)
      · by_cases z2 : b = c'
        · subst z2
          rw [Hc] at e; cases e
          exact kn_ok (Heap.get?_push_of_some _ hoc)
        · by_cases z1 : b = p
          · subst z1
            rw [Hp'] at e; cases e
            exact Heap.get?_push_of_some _ htb
          · rw [Hb b z1 z2 z3] at e
            refine (I.hok b u e).stay (fun d v hd' q => ext d v ?_ q) (fun d q => Hs d _ (fun z => by rw [z,hp] at q; cases q) q) fun d xs q => Hs d _ (fun z => by rw [z,hp] at q; cases q) q
            rcases hd' with rfl | hd'
            · exact z1
            · intro z
              rw [z,hp] at hd'; cases hd'
    have CK : CodeK H' c' (X.env.qual ++ "<lambda>") := ⟨oc,vs,t,Hc,hd2,hv⟩
    have e0 : ps'.toList = ps.toList ++ [rawInt pos.line,rawInt pos.col,.ref c'] := by rw [← hps]; simp
    refine ⟨.ref h'.objs.size,H',I.un (t' := t') un hok,rfl,k _ H' Hs ⟨ps',Hp',?_,fun l hl => ?_⟩ ⟨_,c',ctv,by rw [Hf,← hfob],CK⟩ nf⟩
    · rw [e0]
      exact TriplesOk_snoc _ _ _ _ tk
    · by_cases z : l = (pos,X.env.qual ++ "<lambda>")
      · subst z
        refine .inr ⟨c',?_,CK⟩
        rw [e0]
        exact codeAmong_snoc _ tk hn
      · rw [e0,among_snoc_ne _ tk (hd l hl z)]
        refine (ok l hl).imp_right ?_
        rintro ⟨c3,e3,o3,vs3,t3,e4,r4⟩
        exact ⟨c3,e3,o3,vs3,t3,Hs _ _ (fun z => by rw [z,hp] at e4; cases e4) e4,r4⟩
  · refine kla_makeFunctionHit (mg := X.mg) hcl I.ok.glob hg hcode CH hP tk hc' BA fun ctv h' t' hx hsz => ?_
    have nf : H h'.objs.size = none := I.hok.fresh hsz
    have J := I.laid (a := h'.objs.size) (o := KnO (kla_obj "<lambda>" (X.env.qual ++ "<lambda>") params body scope clos ((X.mg "__name__").getD .none) c' ctv)) (t' := t') (h' := h'.push (kla_obj "<lambda>" (X.env.qual ++ "<lambda>") params body scope clos ((X.mg "__name__").getD .none) c' ctv))
      (fun b o e => Heap.get?_push_of_some _ (hx b o e)) hsz (kn_ok (Heap.get?_push_size _ rfl))
    have S : Same H (upd H h'.objs.size (KnO (kla_obj "<lambda>" (X.env.qual ++ "<lambda>") params body scope clos ((X.mg "__name__").getD .none) c' ctv))) := fun b o e => by
      rw [upd_ne (fun z => by rw [z,nf] at e; cases e)]; exact e
    obtain ⟨o,vs,t,e3,r⟩ := ck
    exact ⟨.ref h'.objs.size,_,J,rfl,k _ _ (fun b o _ e => S b o e) (Tab.same ⟨ps,hp,tk,ok⟩ S) ⟨_,c',ctv,upd_same,o,vs,t,S _ _ e3,r⟩ nf⟩
end
abbrev cut (C : List Addr) (H : Hp) : Hp := fun b => if b ∈ C then none else H b
abbrev putc (C : List Addr) (H H1 : Hp) : Hp := fun b => if b ∈ C then H b else H1 b
theorem cut_in {C : List Addr} {H : Hp} {b : Addr} (h : b ∈ C) : cut C H b = none := if_pos h
theorem cut_out {C : List Addr} {H : Hp} {b : Addr} (h : b ∉ C) : cut C H b = H b := if_neg h
theorem putc_in {C : List Addr} {H H1 : Hp} {b : Addr} (h : b ∈ C) : putc C H H1 b = H b := if_pos h
theorem putc_out {C : List Addr} {H H1 : Hp} {b : Addr} (h : b ∉ C) : putc C H H1 b = H1 b := if_neg h
theorem putc_same {C : List Addr} {H H1 : Hp} (s : Same (cut C H) H1) : Same H (putc C H H1) := fun b o e => by
  by_cases h : b ∈ C
  · rw [putc_in h]; exact e
  · rw [putc_out h]; exact s b o ((cut_out h).trans e)
theorem cut_ok {P : Program} {w : World} {H : Hp} {h : Heap} {C : List Addr} (hok : HOk P w H h) (hC : ∀ c ∈ C,∃ o,H c = some (KnO o)) : HOk P w (cut C H) h := fun b u e => by
  have hb : b ∉ C := fun z => by rw [cut_in z] at e; cases e
  rw [cut_out hb] at e
  have ne : ∀ d o,H d = some o → (∀ z,o ≠ KnO z) → d ∉ C := fun d o e n z => by
    obtain ⟨o',e'⟩ := hC d z
    rw [e] at e'
    exact n o' (Option.some.inj e')
  refine (hok b u e).stay (fun _ _ _ q => q) (fun d q => ?_) fun d xs q => ?_
  · rw [cut_out (ne d _ q fun z q => by cases q)]; exact q
  · rw [cut_out (ne d _ q fun z q => by cases q)]; exact q
def cxLam (P : Program) (w : World) (K : PySem.W.Frag) (mg : Str → Option Value) (base : Heap) (N : List Str) (qual : Str) (scope : Scope) (f : Addr) (cd : Value) (cl : List (Str × Addr)) (A : Around) (outer : List Env) (s : Shared) (H : Hp) : Cx where
  prog := P
  w := w
  K := K
  mg := mg
  base := base
  A := A.deeper (envX qual scope s.heap.objs.size f cd cl)
  N := N
  s₀ := s
  H₀ := H
  env := envX qual scope s.heap.objs.size f cd cl
  outer := outer
  stack := envX qual scope s.heap.objs.size f cd cl :: outer
  ex := []
  calm := true
  fn := fun _ => false
  pn := []
  xe := fun _ _ => False
structure LamN (x : Str) (scope : Scope) (cl : List (Str × Addr)) : Prop where
  kind : scope.kind = .function
  co : scope.isCoroutine = false
  gen : scope.isGenerator = false
  cell : ∀ y ∈ scope.names,y.2 ≠ .cell
  own : scope.names.lookup x = some .local
  has : (scope.names.all fun q => !(q.2 == .free) || (cl.lookup q.1).isSome) = true
  nd : (x :: cl.map (·.1)).Nodup
  fr : ∀ p ∈ cl,scope.names.lookup p.1 = some .free
  inj : ∀ p ∈ cl,∀ q ∈ cl,p.2 = q.2 → p.1 = q.1
theorem cl_lookup {cl : List (Str × Addr)} : ∀ (_ : (cl.map (·.1)).Nodup) {j : Nat} {y : Str} {c : Addr},cl[j]? = some (y,c) → cl.lookup y = some c := by
  induction cl with
  | nil => intro _ j y c e; simp at e
  | cons a r ih =>
    intro nd j y c e
    rw [List.map_cons,List.nodup_cons] at nd
    rw [List.lookup_cons]
    cases j with
    | zero =>
      simp at e
      subst e
      simp
    | succ j =>
      have e' : r[j]? = some (y,c) := by simpa using e
      have : y ≠ a.1 := fun z => nd.1 (List.mem_map.mpr ⟨(y,c),List.mem_of_getElem? e',z⟩)
      rw [beq_eq_false_iff_ne.mpr this]
      exact ih nd.2 e'
section
variable {P : Program} {w : World} {K : PySem.W.Frag} {mg : Str → Option Value} {base : Heap}
theorem lam_inv {x q : Str} {scope : Scope} {cl : List (Str × Addr)} {f c : Addr} {A : Around} {outer : List Env} {s : Shared} {h₁ : Heap} {tk : Nat} {H : Hp} {v : V} {u : Value} {ws : List V} (L : LamN x scope cl) (hd : A.handled = none) (e0 : Env0 P w K mg base A outer s H)
    (cs : Paired (fun (p : Str × Addr) z => CellAt H p.2 z) cl ws) (rv : RelV v u) (hns : h₁.Ns s.heap.objs.size (fun y => [(x,u)].reverse.lookup y)) (hk : ∀ b o,s.heap.get? b = some o → h₁.get? b = some o) :
    Inv (cxLam P w K mg base (x :: cl.map (·.1)) q scope f (.ref c) cl A outer s (cut (cl.map (·.2)) H)) [] (some v :: ws.map some) (cut (cl.map (·.2)) H) { s with heap := h₁,toks := tk } := by
  have get : ∀ {j : Nat} {p : Str × Addr},cl[j]? = some p → ∃ z,ws[j]? = some z ∧ CellAt H p.2 z := by
    clear L hns
    induction cs with
    | nil => intro j p e; simp at e
    | cons a r ih =>
      intro j p e
      cases j with
      | zero => simp at e; subst e; exact ⟨_,rfl,a⟩
      | succ j => exact ih (by simpa using e)
  have len : cl.length = ws.length := Paired.length cs
  have hC : ∀ d ∈ cl.map (·.2),∃ o,H d = some (KnO o) := fun d hd' => by
    obtain ⟨p,hp,rfl⟩ := List.mem_map.mp hd'
    obtain ⟨j,hj⟩ := List.getElem?_of_mem hp
    obtain ⟨z,_,o,_,e,_⟩ := get hj
    exact ⟨o,e⟩
  have isC : ∀ y d,cl.lookup y = some d → d ∈ cl.map (·.2) ∧ ∃ z,s.heap.IsCell d z := fun y d e => by
    have hm := PySem.mem_of_lookup e
    obtain ⟨j,hj⟩ := List.getElem?_of_mem hm
    obtain ⟨z,_,o,u',e',d',_⟩ := get hj
    exact ⟨List.mem_map.mpr ⟨_,hm,rfl⟩,some u',o,kn_get e0.hok e',d'⟩
  have noA : ∀ b : Addr,b ∉ (cxLam P w K mg base (x :: cl.map (·.1)) q scope f (.ref c) cl A outer s (cut (cl.map (·.2)) H)).ex := fun b z => absurd (show b ∈ ([] : List Addr) from z) (by simp)
  have hcut := cut_ok (C := cl.map (·.2)) e0.hok hC
  have cn : ∀ b,H b = none → cut (cl.map (·.2)) H b = none := fun b n => by
    by_cases z : b ∈ cl.map (·.2)
    · exact cut_in z
    · rw [cut_out z]; exact n
  have inv : ∀ h' : Heap,(∀ b o,s.heap.get? b = some o → h'.get? b = some o) → Un (frs outer) [] (cut (cl.map (·.2)) H) (cut (cl.map (·.2)) H) s.heap h' := fun h' k => Un.kept k
  refine ⟨⟨e0.mod,L.kind,rfl,rfl,Nat.le_refl _,fun y z d h1 h2 => ?_,fun y hy => ?_,fun y d z => (by cases z),fun _ => hd,Around.frames_deeper e0.frames,.inr ⟨rfl,rfl⟩,fun b z => absurd z (noA b),fun b o e => ⟨(e0.bs b o e).1,cn b (e0.bs b o e).2⟩,e0.bsz,fun b _ _ => noA b,fun b z => absurd z (noA b),e0.funs,fun b hb => cn b (e0.frf b hb)⟩,
    rfl,e0.bare,inv h₁ hk,⟨_,hns,fun i y v' h1 h2 h3 => ?_⟩,fun y d h => ?_,?_,fun y d h => ?_,fun p hp => absurd (show p ∈ ([] : List (Addr × Obj)) from hp) (by simp),hcut.kept hk,?_⟩
  · exact L.inj _ (PySem.mem_of_lookup h1) _ (PySem.mem_of_lookup h2) rfl
  · have hy : scope.names.lookup y = some .cell ∨ scope.names.lookup y = some .free := hy
    rcases hy with hy | hy
    · exact absurd rfl (L.cell _ (PySem.mem_of_lookup hy))
    · have q := List.all_eq_true.mp L.has _ (PySem.mem_of_lookup hy)
      have q : (cl.lookup y).isSome = true := by simpa only [beq_self_eq_true,Bool.not_true,Bool.false_or] using q
      exact Option.isSome_iff_exists.mp q
  · have h1 : (x :: cl.map (·.1))[i]? = some y := h1
    cases i with
    | zero =>
      have e1 : x = y := by simpa using h1
      have e2 : v = v' := by simpa using h2
      subst e1 e2
      exact ⟨u,rv,.inl ⟨L.own,by simp⟩⟩
    | succ j =>
      have e1 : (cl.map (·.1))[j]? = some y := by simpa using h1
      rw [List.getElem?_map] at e1
      cases hj : cl[j]? with
      | none => rw [hj] at e1; cases e1
      | some p =>
        rw [hj] at e1
        have e1 : p.1 = y := by simpa using e1
        obtain ⟨z,hz,o,u',e',d',r'⟩ := get hj
        have e2 : z = v' := by
          have : (ws.map some)[j]? = some (some v') := by simpa using h2
          rw [List.getElem?_map,hz] at this
          simpa using this
        subst e1 e2
        refine ⟨u',r',.inr ⟨.inr (L.fr p (List.mem_of_getElem? hj)),p.2,cl_lookup (List.nodup_cons.mp L.nd).2 (c := p.2) (y := p.1) hj,o,hk _ _ (kn_get e0.hok e'),d'⟩⟩
  · obtain ⟨z,o,e,d'⟩ := (isC y d h).2
    exact ⟨z,o,hk _ _ e,d'⟩
  · exact cn _ (e0.hok.fresh (Nat.le_refl _))
  · exact cut_in (isC y d h).1
  · show (some v :: ws.map some).length = (x :: cl.map (·.1)).length
    simp [len]
def spLam (f : Addr) (q : Str) (params : Arguments) (body : Expr) (scope : Scope) (cl : List (Str × Addr)) (pm : Value) (c : Addr) (ctv : Value) (te : TE) : Sp := fun vs H Q _ =>
  ∃ v ws,vs = [v] ∧ H f = some (KnO (kla_obj "<lambda>" q params body scope cl pm c ctv)) ∧ CodeK H c q ∧ Paired (fun (p : Str × Addr) z => CellAt H p.2 z) cl ws ∧
    te (some v :: ws.map some) (cut (cl.map (·.2)) H) fun r H1 => (∀ c ∈ cl.map (·.2),H1 c = none) → Q r (putc (cl.map (·.2)) H H1)
theorem lam_fn {x q : Str} {params : Arguments} {body : Expr} {scope : Scope} {cl : List (Str × Addr)} {pm ctv : Value} {f c : Addr} {te : TE} {k : Nat} (L : LamN x scope cl)
    (hbody : ∀ (A : Around) (outer : List Env) (s : Shared) (H : Hp),Room k (A.deeper (envX q scope s.heap.objs.size f (.ref c) cl)) → PE (cxLam P w K mg base (x :: cl.map (·.1)) q scope f (.ref c) cl A outer s H) body te) :
    FnOk P w K mg base CX0 (k + 1) f (kla_fn "<lambda>" q params body scope cl pm (.ref c) ctv) [x] (spLam f q params body scope cl pm c ctv te) := by
  refine ⟨fun vs H Q E h => ?_,fun A outer s H args us vs Q E hr e0 hb r hsp => ?_⟩
  · obtain ⟨v,ws,rfl,_⟩ := h
    rfl
  · obtain ⟨v,ws,rfl,ef,ck,cs,h⟩ := hsp
    cases r with
    | cons rv r =>
      cases r
      rename_i u
      have lim : s.heap.NoLimit := e0.mod.nolimit.keeps fun b o e => (e0.bs b o e).1
      refine kla_callFunE hr.depth (kn_get e0.hok ef) rfl L.co L.gen rfl (ck.rec_ e0.hok) (hb _ _ _ _ ?_)
      refine wpAny_newFunctionEnv L.cell (fun y hy => ?_) (fun h₁ hns hsb => ⟨lim.fresh _ hsb,?_⟩) L.kind
      · obtain rfl : y = (x,u) := by simpa using hy
        exact L.own
      · show codeAny _ _ (.expr body (envX q scope s.heap.objs.size f (.ref c) cl)) _ _
        have hk₁ : ∀ b o,s.heap.get? b = some o → h₁.get? b = some o := fun b o e => hsb.extBut b o (Nat.ne_of_lt (Heap.lt_size e)) (Heap.get?_push_of_some _ e)
        have I := lam_inv (q := q) (f := f) (c := c) (tk := s.toks + ([x].zip [u]).length) L hr.hd e0 cs rv hns hk₁
        refine kla_codeExpr (wpAny_mono (hbody A outer s _ (hr.deeper _) _ _ _ _ _ I h) (fun u' s' hq => ?_) fun _ _ z => False.elim z)
        obtain ⟨v',H1,J,r',q'⟩ := hq
        have hC : ∀ d ∈ cl.map (·.2),∃ o,H d = some (KnO o) ∧ s.heap.get? d = some o := fun d hd' => by
          obtain ⟨p,hp,rfl⟩ := List.mem_map.mp hd'
          have : ∀ {l : List (Str × Addr)} {ws : List V},Paired (fun (p : Str × Addr) z => CellAt H p.2 z) l ws → p ∈ l → ∃ z,CellAt H p.2 z := by
            intro l ws cs
            induction cs with
            | nil => intro z; cases z
            | cons a r ih =>
              intro z
              rcases List.mem_cons.mp z with rfl | z
              · exact ⟨_,a⟩
              · exact ih z
          obtain ⟨z,o,_,e,_⟩ := this cs hp
          exact ⟨o,e,kn_get e0.hok e⟩
        have B : Un (frs outer) [] (cut (cl.map (·.2)) H) H1 s.heap s'.heap := J.base
        have nin : ∀ b,(∀ o,H b ≠ some (KnO o)) → b ∉ cl.map (·.2) := fun b n z => by
          obtain ⟨o,e,_⟩ := hC b z
          exact n o e
        have out : ∀ b,H b = none → b ∉ cl.map (·.2) := fun b n => nin b fun o e => by rw [n] at e; cases e
        have h1n : ∀ d ∈ cl.map (·.2),H1 d = none := fun d hd' => by
          obtain ⟨o,_,e⟩ := hC d hd'
          exact B.free d o e (cut_in hd') (by simp)
        have sC : ∀ d ∈ cl.map (·.2),∀ o,s.heap.get? d = some o → s'.heap.get? d = some o := fun d hd' o e => by
          refine B.keep d o e (cut_in hd') (fun z => ?_) (by simp)
          obtain ⟨o',e',_⟩ := hC d hd'
          rw [e0.frf d z] at e'
          cases e'
        refine ⟨v',putc (cl.map (·.2)) H H1,J.os,J.bare,⟨fun b o e n hb hx => ?_,fun b o e n hb hx => ?_,fun b o e n hx => ?_,fun b o e hx => B.there b o e hx,fun b xs e => ?_,fun b o u e => ?_,fun b ps e => ?_⟩,fun b u e => ?_,r',q' h1n⟩
        · exact B.keep b o e ((cut_out (out b n)).trans n) hb hx
        · exact B.slot b o e ((cut_out (out b n)).trans n) hb hx
        · rw [putc_out (out b n)]
          exact B.free b o e ((cut_out (out b n)).trans n) hx
        · have z : b ∉ cl.map (·.2) := nin b fun o' e' => by rw [e] at e'; cases e'
          rw [putc_out z]
          exact B.tups b xs ((cut_out z).trans e)
        · by_cases z : b ∈ cl.map (·.2)
          · rw [putc_in z]; exact e
          · rw [putc_out z]
            exact B.frzs b o u ((cut_out z).trans e)
        · have z : b ∉ cl.map (·.2) := nin b fun o' e' => by rw [e] at e'; cases e'
          obtain ⟨more,q⟩ := B.tbls b ps ((cut_out z).trans e)
          exact ⟨more,by rw [putc_out z]; exact q⟩
        · by_cases z : b ∈ cl.map (·.2)
          · rw [putc_in z] at e
            obtain ⟨o,e',g⟩ := hC b z
            rw [e] at e'
            cases e'
            exact kn_ok (sC b z o g)
          · rw [putc_out z] at e
            refine (J.hok b u e).stay (fun _ _ _ q => q) (fun d q => ?_) fun d xs q => ?_
            · rw [putc_out fun z => by rw [h1n d z] at q; cases q]; exact q
            · rw [putc_out fun z => by rw [h1n d z] at q; cases q]; exact q
end
def tCallL (cs : List (Addr × Nat)) (sp : Sp) (t : TA) : TE := fun σ H Q => t σ H fun vs H1 => ∀ H2,Same H1 H2 → (∀ p ∈ cs,∀ v,σ[p.2]? = some (some v) → CellAt H2 p.1 v) →
  sp vs H2 (fun r H3 => ∀ H4,(∀ b o,H3 b = some o → (∀ z,o ≠ KnO z) → H4 b = some o) → (∀ b o,H1 b = some o → H3 b = some o → H4 b = some o) → Q r H4) E0
section
variable {X : Cx} {x : Str} {ps : List Str} {k : Nat} {sp : Sp} {p pos : Pos} {e : Expr} {es : List Expr} {t : TA} {cs : List (Addr × Nat)}
open Classical in
theorem run_fnL {pins : List (Addr × Obj)} {σ : St} {H : Hp} {s : Shared} {Q : VK} {us : List Value} {vs : List V} {f : Addr} {fd : FuncData} (F : FnOk X.prog X.w X.K X.mg X.base CX0 k f fd ps sp) (hr : Room k X.A) (hb : Binds X.K fd ps []) (hfn : ∀ x,X.fn x = true)
    (hcs : ∀ p ∈ cs,∃ y,X.env.cells.lookup y = some p.1 ∧ X.N[p.2]? = some y ∧ X.env.kindOf y = some .cell ∧ Vis X.env.scope y) (I : Inv X pins σ H s) (r : Vals vs us)
    (h : ∀ H2,Same H H2 → (∀ p ∈ cs,∀ v,σ[p.2]? = some (some v) → CellAt H2 p.1 v) →
      sp vs H2 (fun r H3 => ∀ H4,(∀ b o,H3 b = some o → (∀ z,o ≠ KnO z) → H4 b = some o) → (∀ b o,H b = some o → H3 b = some o → H4 b = some o) → Q r H4) E0) :
    wpAny (model X.prog X.w) X.A (call (.ref f) us) (EP X pins σ Q) X.xe s := by
  let isC : Addr → Prop := fun b => ∃ y,X.env.cells.lookup y = some b
  let H2 : Hp := fun b => if isC b then (s.heap.get? b).map KnO else H b
  have in2 : ∀ b,isC b → H2 b = (s.heap.get? b).map KnO := fun b z => if_pos z
  have out2 : ∀ b,¬ isC b → H2 b = H b := fun b z => if_neg z
  have cN : ∀ b,isC b → H b = none := fun b ⟨y,e⟩ => I.freeC y b e
  have cG : ∀ b,isC b → ∃ o z,s.heap.get? b = some o ∧ o.data = .cell z := fun b ⟨y,e⟩ => by
    obtain ⟨z,o,e1,e2⟩ := I.cell y b e
    exact ⟨o,z,e1,e2⟩
  have cK : ∀ b o,isC b → s.heap.get? b = some o → H2 b = some (KnO o) := fun b o z e => by rw [in2 b z,e]; rfl
  have cA : ∀ b,isC b → X.s₀.heap.objs.size ≤ b := fun b ⟨y,e⟩ => I.ok.cab y b (hfn y) e
  have same : Same H H2 := fun b o e => by
    rw [out2 b fun z => by rw [cN b z] at e; cases e]; exact e
  have frn : ∀ b ∈ frs X.stack,¬ isC b := fun b hb ⟨y,e⟩ => by
    rcases List.mem_cons.mp (I.stkSub b hb) with z | z
    · exact I.cne y b e z
    · obtain ⟨_,o,ho,_⟩ := I.ok.funs.mem z
      exact absurd (Nat.lt_of_lt_of_le (Heap.lt_size ho) (cA b ⟨y,e⟩)) (Nat.lt_irrefl _)
  have hok2 : HOk X.prog X.w H2 s.heap := fun b u e => by
    by_cases z : isC b
    · obtain ⟨o,z',e1,_⟩ := cG b z
      rw [cK b o z e1] at e
      cases e
      exact kn_ok e1
    · rw [out2 b z] at e
      exact (I.hok b u e).stay (fun _ _ _ q => q) (fun d q => same d _ q) fun d xs q => same d _ q
  have e0 := I.env0
  have e2 : Env0 X.prog X.w X.K X.mg X.base X.A X.stack s H2 := by
    refine ⟨e0.frames,e0.mod,fun b o e => ⟨(e0.bs b o e).1,?_⟩,e0.bsz,e0.funs,fun b hb => ?_,hok2,e0.bare⟩
    · rw [out2 b fun z => absurd (Nat.lt_of_lt_of_le (Heap.lt_size e) (Nat.le_trans I.ok.bsz (cA b z))) (Nat.lt_irrefl _)]
      exact (e0.bs b o e).2
    · rw [out2 b (frn b hb)]
      exact e0.frf b hb
  have cells : ∀ p ∈ cs,∀ v,σ[p.2]? = some (some v) → CellAt H2 p.1 v := fun p hp v hv => by
    obtain ⟨y,h1,h2,h3,h4⟩ := hcs p hp
    obtain ⟨m,hn,hl⟩ := I.loc
    obtain ⟨u,ru,l⟩ := hl p.2 y v h2 hv h4
    rcases l with ⟨kk,_⟩ | ⟨_,c,hc,o,ho,hd⟩
    · rw [h3] at kk; cases kk
    · rw [h1] at hc
      cases hc
      exact ⟨o,u,cK _ o ⟨y,h1⟩ ho,hd,ru⟩
  have hq := h H2 same cells
  have hl : (us ++ []).length = ps.length := by rw [List.append_nil,← r.length]; exact F.len _ _ _ _ hq
  have hbb := hb s us I.kIn hl
  rw [List.append_nil] at hbb
  refine wpAny_call (codeAny_mono (F.run X.A X.stack s H2 ⟨us,[]⟩ us vs _ E0 hr e2 hbb r hq) fun r s' hq => ?_)
  cases r with
  | error e => exact False.elim hq
  | ok fl =>
    cases fl with
    | next => exact False.elim hq
    | brk => exact False.elim hq
    | cont => exact False.elim hq
    | ret u =>
      obtain ⟨v,H3,os,bare,un,hok,rv,q⟩ := hq
      let H4 : Hp := fun b => if isC b then none else H3 b
      have in4 : ∀ b,isC b → H4 b = none := fun b z => if_pos z
      have out4 : ∀ b,¬ isC b → H4 b = H3 b := fun b z => if_neg z
      have c3 : ∀ b,isC b → ∃ o,H3 b = some (KnO o) ∧ s.heap.get? b = some o ∧ s'.heap.get? b = some o := fun b z => by
        obtain ⟨o,z',e1,_⟩ := cG b z
        have e3 := un.frzs b o _ (cK b o z e1)
        exact ⟨o,e3,e1,kn_get hok e3⟩
      refine I.after ⟨v,H4,os,bare,⟨fun b o e n hb hx => ?_,fun b o e n hb hx => ?_,fun b o e n hx => ?_,fun b o e hx => un.there b o e hx,fun b xs e => ?_,fun b o u e => ?_,fun b ps e => ?_⟩,fun b u e => ?_,rv,q H4 (fun b o e n => ?_) fun b o e e3 => ?_⟩
      · by_cases z : isC b
        · obtain ⟨o',_,e1,e2⟩ := c3 b z
          rw [e] at e1
          cases e1
          exact e2
        · exact un.keep b o e ((out2 b z).trans n) hb hx
      · exact un.slot b o e ((out2 b (frn b hb)).trans n) hb hx
      · by_cases z : isC b
        · exact in4 b z
        · rw [out4 b z]
          exact un.free b o e ((out2 b z).trans n) hx
      · have z : ¬ isC b := fun z => by rw [cN b z] at e; cases e
        rw [out4 b z]
        exact un.tups b xs ((out2 b z).trans e)
      · have z : ¬ isC b := fun z => by rw [cN b z] at e; cases e
        rw [out4 b z]
        exact un.frzs b o u ((out2 b z).trans e)
      · have z : ¬ isC b := fun z => by rw [cN b z] at e; cases e
        rw [out4 b z]
        exact un.tbls b ps ((out2 b z).trans e)
      · have z : ¬ isC b := fun z => by rw [in4 b z] at e; cases e
        rw [out4 b z] at e
        refine (hok b u e).stay (fun _ _ _ q => q) (fun d q => ?_) fun d xs q => ?_
        · rw [out4 d fun z => by obtain ⟨o,e3,_⟩ := c3 d z; rw [e3] at q; cases q]; exact q
        · rw [out4 d fun z => by obtain ⟨o,e3,_⟩ := c3 d z; rw [e3] at q; cases q]; exact q
      · rw [out4 b fun z => by obtain ⟨o',e3,_⟩ := c3 b z; rw [e3] at e; exact n o' (Option.some.inj e).symm]
        exact e
      · rw [out4 b fun z => by rw [cN b z] at e; cases e]
        exact e3
theorem pe_fnL (F : Fn X.prog X.w X.K X.mg X.base x ps k sp) (hr : Room k X.A) (hg : Gl X x) (hfn : ∀ x,X.fn x = true) (hcs : ∀ p ∈ cs,∃ y,X.env.cells.lookup y = some p.1 ∧ X.N[p.2]? = some y ∧ X.env.kindOf y = some .cell ∧ Vis X.env.scope y) (ha : PA X (e :: es) t)
    (hdb : (x == ("__debug__" : Str)) = false := by decide) (he : starEach (e :: es) X.env = (false,eval e X.env) :: starEach es X.env := by rfl) (hpl : (backTo pos (starEach es X.env)).any (·.1) = false := by rfl) :
    PE X (.Call (.Name x p) (e :: es) [] pos) (tCallL cs sp t) := by
  obtain ⟨f,fd,o,hm,hk,hb,_,G⟩ := F.ex
  intro pins s σ H Q I h
  refine wpAny_Call_Name_kw (ld_glob I hg hm ?_ hdb)
  refine PySem.W.callWith_K (h₀ := X.base) I.ok.mod.kin hk (thn (ha pos pins s σ H _ I h) fun us s1 ⟨vs,H1,I1,r,q⟩ => ⟨I1.kIn,?_⟩) he hpl
  exact run_fnL G hr (.all hb) hfn hcs I1 r q
def IsFn (P : Program) (w : World) (K : PySem.W.Frag) (mg : Str → Option Value) (base : Heap) (k : Nat) (f : Addr) (sp : Sp) : Prop := ∃ (fd : FuncData) (ps : List Str),FnOk P w K mg base CX0 k f fd ps sp ∧ Binds K fd ps []
def FObj (H : Hp) (f : Addr) : Prop := ∃ o fd,H f = some (KnO o) ∧ o.data = .func fd
def tCallV (P : Program) (w : World) (K : PySem.W.Frag) (mg : Str → Option Value) (base : Heap) (k i : Nat) (t : TA) : TE := fun σ H Q =>
  ∃ f sp,σ[i]? = some (some (.ref f)) ∧ IsFn P w K mg base k f sp ∧ FObj H f ∧ t σ H fun vs H1 => FObj H1 f ∧ sp vs H1 Q E0
theorem pe_callV {i : Nat} (hr : Room k X.A) (hN : X.N[i]? = some x) (hv : Vis X.env.scope x) (ha : PA X (e :: es) t)
    (hdb : (x == ("__debug__" : Str)) = false := by decide) (hcd : (x == ("__classdict__" : Str)) = false := by decide) (he : starEach (e :: es) X.env = (false,eval e X.env) :: starEach es X.env := by rfl) (hpl : (backTo pos (starEach es X.env)).any (·.1) = false := by rfl) :
    PE X (.Call (.Name x p) (e :: es) [] pos) (tCallV X.prog X.w X.K X.mg X.base k i t) := by
  intro pins s σ H Q I h
  obtain ⟨f,sp,hs,⟨fd',ps',G',hb⟩,⟨o,fd,eo,ed⟩,h⟩ := h
  refine wpAny_Call_Name_kw (thn (pe_var (i := i) hN hv hdb hcd pins s σ H (fun v H' => v = .ref f ∧ H' = H) I ⟨_,hs,rfl,rfl⟩) fun u s1 ⟨v,H1,I1,rv,ev,eH⟩ => ?_)
  subst ev eH
  obtain rfl : u = Value.ref f := rv
  have at' : ∀ {s : Shared} {H : Hp} {o : Obj} {fd : FuncData},HOk X.prog X.w H s.heap → H f = some (KnO o) → o.data = .func fd → FnAt f s.heap := fun {s H o fd} k e d => by
    have g := kn_get k e
    obtain ⟨oc,od,dt,sl⟩ := o
    cases d
    exact ⟨oc,od,fd,sl,g⟩
  refine callWith_F (at' I1.hok eo ed) (thn (ha pos pins s1 σ H1 _ I1 h) fun us s2 ⟨vs,H2,I2,r,⟨o2,fd2,eo2,ed2⟩,q⟩ => ⟨at' I2.hok eo2 ed2,?_⟩) he hpl
  exact run_fn (ds := []) (dvs := []) G' hr hb .nil pass0 I2 r (by rw [List.append_nil]; exact q)
theorem LamAt.obj {H : Hp} {f : Addr} {q : Str} {params : Arguments} {body : Expr} {scope : Scope} {clos : List (Str × Addr)} (t : LamAt H f q params body scope clos) : FObj H f := by
  obtain ⟨pm,c,ctv,e,_⟩ := t
  exact ⟨_,_,e,rfl⟩
end
structure DfT (K : PySem.W.Frag) (mg : Str → Option Value) (x : Str) (st : Stmt) (p : Addr) : Prop where
  ex : ∃ (f : Addr) (oc : Value) (od : Option Addr) (kV doc pm : Value) (an : Option Addr) (c : Addr) (ct : Value) (osl : Array (Option Value)),
    mg x = some (.ref f) ∧ K.lookup f = some ⟨oc,od,.func (PySem.W.fnOf x x (defArgs st) (defBody st) (defScope st) .none kV doc pm an (.ref c) ct),osl⟩ ∧ PySem.W.codeIn K (.ref c) x = true ∧ PySem.W.keepIn K (.ref f) = true ∧ CodeF K c p
theorem DfT.fn {P : Program} {w : World} {K : PySem.W.Frag} {mg : Str → Option Value} {base : Heap} {x : Str} {st : Stmt} {p : Addr} {N ps : List Str} {k : Nat} {sp : Sp} (D : DfT K mg x st p) (S : FnScope N ps (defScope st))
    (hbind : ∀ (kV doc pm : Value) (an : Option Addr) (cdv ct : Value) (us : List Value),us.length = ps.length → bindArgs (PySem.W.fnOf x x (defArgs st) (defBody st) (defScope st) .none kV doc pm an cdv ct) ⟨us,[]⟩ = pure (ps.zip us))
    (len : ∀ vs H Q E,sp vs H Q E → vs.length = ps.length)
    (hbody : ∀ (f : Addr) (cdv : Value) (A : Around) (outer : List Env) (s : Shared) (H : Hp) (vs : List V) (Q : VK) (E : XK),(∃ c,cdv = .ref c ∧ CodeF K c p) → Room k (A.deeper (envOfC x (defScope st) s.heap.objs.size f cdv)) → sp vs H Q E →
      ∃ t,PSs (cxOf CX0 P w K mg base N x (defScope st) f cdv A outer s H E).nox (defBody st) t ∧ t { nx := fun _ H' => Q .non H',rt := Q } (start N vs) H) : Fn P w K mg base x ps (k + 1) sp := by
  obtain ⟨f,oc,od,kV,doc,pm,an,c,ct,osl,hm,lk,hcd,hk,hc⟩ := D.ex
  refine ⟨⟨f,_,_,hm,hk,hbind kV doc pm an (.ref c) ct,⟨lk,rfl⟩,fn_of lk hcd S len fun A outer s H vs Q E hr hsp => ?_⟩⟩
  obtain ⟨t,h,q⟩ := hbody f (.ref c) A outer s H vs Q E ⟨c,rfl,hc⟩ hr hsp
  exact ⟨t,h.nox,q⟩
def callArg (s : Stmt) (i : Nat) : Expr := match s with
  | .Assign _ (.Call _ as _ _) _ => as.getD i (.Name "" ⟨0,0,0,0⟩)
  | _ => .Name "" ⟨0,0,0,0⟩
def lamScope (e : Expr) : Scope := match e with
  | .Lambda _ _ sc _ => sc
  | _ => { kind := .function,names := [],isGenerator := false,isCoroutine := false }
def lamArgs (e : Expr) : Arguments := match e with
  | .Lambda a _ _ _ => a
  | _ => { posonlyargs := [],args := [],vararg := none,kwonlyargs := [],kw_defaults := [],kwarg := none,defaults := [] }
def lamBody (e : Expr) : Expr := match e with
  | .Lambda _ b _ _ => b
  | _ => .Name "" ⟨0,0,0,0⟩
def lamPos (e : Expr) : Pos := match e with
  | .Lambda _ _ _ p => p
  | _ => ⟨0,0,0,0⟩
theorem cut_keep {C : List Addr} {H : Hp} {b : Addr} {o : HO} (hC : ∀ c ∈ C,∃ o,H c = some (KnO o)) (e : H b = some o) (n : ∀ z,o ≠ KnO z) : cut C H b = some o := by
  rw [cut_out fun z => ?_]
  · exact e
  · obtain ⟨o',e'⟩ := hC b z
    rw [e] at e'
    exact n o' (Option.some.inj e')
theorem putc_get {C : List Addr} {H H1 : Hp} {b : Addr} {o : HO} (hC : ∀ c ∈ C,H1 c = none) (e : H1 b = some o) : putc C H H1 b = some o := by
  rw [putc_out fun z => by rw [hC b z] at e; cases e]
  exact e
theorem SameP.keep {p : Addr} {H H' : Hp} {b : Addr} {o : HO} {ls : List (Pos × Str)} (s : SameP p H H') (t : Tab H p ls) (e : H b = some o) (n : ∀ ps,o ≠ .tbl ps) : H' b = some o := by
  obtain ⟨ps,e1,_⟩ := t
  refine s b o (fun z => ?_) e
  rw [z,e1] at e
  exact n ps (Option.some.inj e).symm
theorem SameP.trans {p : Addr} {H H1 H2 : Hp} (a : SameP p H H1) (b : SameP p H1 H2) : SameP p H H2 := fun c o n e => b c o n (a c o n e)
theorem Same.p {p : Addr} {H H' : Hp} (s : Same H H') : SameP p H H' := fun b o _ e => s b o e
theorem cells_kn {H : Hp} {cl : List (Str × Addr)} {ws : List V} (cs : Paired (fun (p : Str × Addr) z => CellAt H p.2 z) cl ws) : ∀ c ∈ cl.map (·.2),∃ o,H c = some (KnO o) := by
  induction cs with
  | nil => intro c h; cases h
  | cons a r ih =>
    intro c h
    rcases List.mem_cons.mp h with rfl | h
    · obtain ⟨o,u,e,_⟩ := a
      exact ⟨o,e⟩
    · exact ih c h
theorem CellAt.mono {H H' : Hp} {c : Addr} {v : V} (x : CellAt H c v) (s : Same H H') : CellAt H' c v := let ⟨o,u,e,r⟩ := x; ⟨o,u,s _ _ e,r⟩
end L2
namespace L2
open PySem PySem.Spec PyProof.Rows
structure CompM (X : Cx) (scope : Scope) (cl : List (Str × Addr)) (xs : List Str) (fv : List (Str × Nat)) : Prop where
  clos : closureFor scope X.env = pure cl
  kind : scope.kind = .function
  cell : ∀ y ∈ scope.names,y.2 ≠ .cell
  names : ∀ y ∈ scope.names,y.2 = .local → scope.names.lookup y.1 = some .local
  own : ∀ x ∈ xs,scope.names.lookup x = some .local
  cells : ∀ p ∈ cl,X.env.cells.lookup p.1 = some p.2
  has : ((relabel scope X.env).names.all fun q => !(q.2 == .cell || q.2 == .free) || (cl.lookup q.1).isSome) = true
  nd : (xs ++ fv.map (·.1)).Nodup
  slot : ∀ p ∈ fv,X.N[p.2]? = some p.1 ∧ X.env.kindOf p.1 = some .cell ∧ Vis X.env.scope p.1 ∧ (cl.lookup p.1).isSome = true ∧ ((relabel scope X.env).names.lookup p.1 = some .cell)
  stk : X.stack = X.env :: X.outer ∧ X.env.frame = some X.env.locals
  noex : X.ex = []
def PTs (X : Cx) (ifs : List Expr) (tc : TT) : Prop :=
  ∀ (pins : List (Addr × Obj)) (s : Shared) (σ : St) (H : Hp) (Q : Bool → Hp → Prop),Inv X pins σ H s → tc σ H Q →
    wpAny (model X.prog X.w) X.A (forIn ifs true fun c r => if r = true then do let ok ← isTrue c X.env (eval c X.env); pure (ForInStep.yield ok) else pure (ForInStep.yield r)) (fun b s' => ∃ H',Inv X pins σ H' s' ∧ Q b H') X.xe s
def tYes : TT := fun _ H Q => Q true H
theorem pts_nil {X : Cx} : PTs X [] tYes := fun pins s σ H Q I h => wpAny_tests_nil ⟨H,I,h⟩
theorem pts_one {X : Cx} {c : Expr} {tc : TT} (h : PT X c tc) : PTs X [c] tc := fun pins s σ H Q I q => wpAny_tests_one (h pins s σ H Q I q)
theorem compLoop_go {prog : Program} {w : World} {A : Around} {R : Result → Shared → Prop} {s : Shared} {elt target iter : Expr} {ifs : List Expr} {scope : Scope} {pos : Pos} {it acc : Value} {env : Env} (I : Nat → Shared → Prop)
    (turn : ∀ n s,I n s → wpAny (model prog w) A (pyNext it) (fun r s₁ => match r with
      | none => R (.ok .next) s₁
      | some v => wpAny (model prog w) A (letOwnedTupleGo target it v) (fun _ s₀ => wpAny (model prog w) A (assign target env v) (fun _ s₂ =>
          wpAny (model prog w) A (forIn ifs true fun c r => if r = true then do let ok ← isTrue c env (eval c env); pure (ForInStep.yield ok) else pure (ForInStep.yield r)) (fun ok s₃ =>
            if ok = true then wpAny (model prog w) A (eval elt env) (fun x s₄ =>
              wpAny (model prog w) A (call (.builtin "list.append") [acc,x]) (fun _ s₅ => ∃ m,m < n ∧ I m s₅) (notedBy (model prog w) A env fun e s' => R (.error e) s') s₄) (notedBy (model prog w) A env fun e s' => R (.error e) s') s₃
            else ∃ m,m < n ∧ I m s₃) (notedBy (model prog w) A env fun e s' => R (.error e) s') s₂) (notedBy (model prog w) A env fun e s' => R (.error e) s') s₀) (notedBy (model prog w) A env fun e s' => R (.error e) s') s₁) (notedBy (model prog w) A env fun e s' => R (.error e) s') s)
    (n : Nat) (h : I n s) : codeAny (model prog w) A (.compLoop (.ListComp elt [⟨target,iter,ifs,0⟩] scope pos) 0 it acc env) R s := by
  refine codeAny_loop rfl I (fun n s hI => ?_) n h
  show wpAny _ A ((compTurn (.ListComp elt [⟨target,iter,ifs,0⟩] scope pos) 0 it acc env).onRaise (fun x => do noteFrame x env; theTreesLotGoes x)) _ _ s
  refine wpAny_noted ?_
  rw [compTurn_list]
  refine wpAny_bind (wpAny_standAt (wpAny_bind (wpAny_mono (turn n s hI) (fun r s₁ h₁ => ?_) fun _ _ h' => h')))
  cases r with
  | none => exact wpAny_pure h₁
  | some v =>
    refine wpAny_bind (wpAny_mono h₁ (fun _ s₀ h₀ => ?_) fun _ _ h' => h')
    refine wpAny_bind (wpAny_mono h₀ (fun _ s₂ h₂ => wpAny_bind (wpAny_mono h₂ (fun ok s₃ h₃ => ?_) fun _ _ h' => h')) fun _ _ h' => h')
    cases ok with
    | false => exact wpAny_pure ⟨rfl,h₃⟩
    | true => exact wpAny_bind (wpAny_bind (wpAny_mono h₃ (fun x s₄ h₄ => wpAny_bind (wpAny_mono h₄ (fun _ s₅ h₅ => wpAny_pure (wpAny_pure ⟨rfl,h₅⟩)) fun _ _ h' => h')) fun _ _ h' => h'))
def CompAtG (J : It) (n : Nat) (fv : List (Str × Nat)) (g : TG) (tc : TT) (te : TE) (σ : St) (H1 : Hp) (Q : VK) : Prop := ∀ p,H1 p = none → ∃ W : Nat → Nat → List V → Hp → Prop,(∃ m,W 0 m [] (upd H1 p (.lst []))) ∧ ∀ i m acc H2,W i m acc H2 →
  H2 p = some (.lst acc) ∧ acc.length < sizeLine ∧ ((J.stop i H2 ∧ Q (.ref p) H2) ∨ (J.go i H2 ∧ ∀ x H3,J.yld i H2 x H3 → ∀ τ : St,τ.length = n → g x (τ ++ fvs fv σ) H3 fun σ2 H4 => (∃ τ' : St,τ'.length = n ∧ σ2 = τ' ++ fvs fv σ) ∧
    tc σ2 H4 fun b H5 => if b = true then te σ2 H5 (fun y H6 => H6 p = some (.lst acc) ∧ ∃ m',m' < m ∧ W (i + 1) m' (acc ++ [y]) (upd H6 p (.lst (acc ++ [y])))) else ∃ m',m' < m ∧ W (i + 1) m' acc H5))
def tCompG (wi : TI) (n : Nat) (fv : List (Str × Nat)) (g : TG) (tc : TT) (te : TE) : TE := fun σ H Q => wi σ H fun J H1 => CompAtG J n fv g tc te σ H1 Q
section
variable {X : Cx} {scope : Scope} {cl : List (Str × Addr)} {xs : List Str} {fv : List (Str × Nat)} {elt iter tg : Expr} {ifs : List Expr} {pos : Pos} {te : TE} {tc : TT} {g : TG}
theorem blk_okG {pins : List (Addr × Obj)} {σ : St} {H : Hp} {s : Shared} {fp : List Addr} (C : CompM X scope cl xs fv) (I : Inv X pins σ H s) (hf : ∀ b ∈ fp,FpOk X pins H b) (ho : ∀ b ∈ fp,b < s.heap.objs.size) : (X.blk (xs ++ fv.map (·.1)) scope cl fp s H).Ok := by
  have hcl : ∀ y c,cl.lookup y = some c → X.env.cells.lookup y = some c := fun y c h => C.cells _ (lookup_mem h)
  have old : ∀ b ∈ fp,X.s₀.heap.objs.size ≤ b := fun b hb => by
    rcases (hf b hb).2.2.2.1 with z | z
    · rw [C.noex] at z
      cases z
    · exact z
  refine ⟨I.ok.mod,by show (relabel scope X.env).kind = _; exact C.kind,I.ok.glob,I.ok.blt,Nat.le_refl _,fun y z c h1 h2 => I.ok.inj y z c (hcl y c h1) (hcl z c h2),fun y hy => ?_,(fun y c h => by cases h),I.ok.hd,I.ok.frames,.inl rfl,fun b hb => ?_,fun b o e => I.bs b o e,Nat.le_trans I.ok.bsz I.sz,fun b o e hb => ?_,fun b hb hm => ?_,I.stack,I.stkFree⟩
  · have q := C.has
    rw [List.all_eq_true] at q
    have hm : ∃ k,(y,k) ∈ (relabel scope X.env).names ∧ (k = .cell ∨ k = .free) := by
      rcases hy with hy | hy
      · exact ⟨_,lookup_mem hy,.inl rfl⟩
      · exact ⟨_,lookup_mem hy,.inr rfl⟩
    obtain ⟨k,hk,hk2⟩ := hm
    have q2 := q _ hk
    have q3 : (cl.lookup y).isSome = true := by
      rcases hk2 with rfl | rfl
      · simpa using q2
      · simpa using q2
    exact Option.isSome_iff_exists.mp q3
  · obtain ⟨f0,f1,f2,f3,f4,f5⟩ := hf b hb
    refine ⟨?_,fun y c h => f4 y c (hcl y c h)⟩
    exact Nat.ne_of_lt (ho b hb)
  · have z := Heap.lt_size e
    have z2 := old b hb
    exact absurd (Nat.lt_of_lt_of_le z (Nat.le_trans I.ok.bsz z2)) (Nat.lt_irrefl _)
  · obtain ⟨f0,f1,f2,f3,f4,f5⟩ := hf b hb
    rcases List.mem_cons.mp (I.stkSub b hm) with z | z
    · exact f1 z
    · exact f2 z
theorem blk_invG {pins : List (Addr × Obj)} {σ : St} {H : Hp} {s s4 : Shared} {fp : List Addr} (C : CompM X scope cl xs fv) (I : Inv X pins σ H s) (hf : ∀ b ∈ fp,FpOk X pins H b) (ho : ∀ b ∈ fp,b < s.heap.objs.size)
    (hs : s4.os = s.os ∧ s4.gens = s.gens) (ns : s4.heap.Ns s.heap.objs.size fun _ => none) (kp : ∀ b o,s.heap.get? b = some o → s4.heap.get? b = some o) :
    Inv (X.blk (xs ++ fv.map (·.1)) scope cl fp s H) [] (List.replicate xs.length none ++ fvs fv σ) H s4 := by
  have hcl : ∀ y c,cl.lookup y = some c → X.env.cells.lookup y = some c := fun y c h => C.cells _ (lookup_mem h)
  refine ⟨blk_okG C I hf ho,hs.1,by rw [hs.2]; exact I.bare,Un.kept kp,⟨_,ns,fun i y v e1 e2 e3 => ?_⟩,fun y c h => ?_,I.hok.fresh (Nat.le_refl _),fun y c h => I.freeC y c (hcl y c h),fun p hp => by simp at hp,I.hok.kept kp,by simp [fvs]⟩
  · by_cases hi : i < xs.length
    · rw [List.getElem?_append_left (by rw [List.length_replicate]; exact hi),List.getElem?_replicate] at e2
      simp [hi] at e2
    · obtain ⟨j,rfl⟩ : ∃ j,i = xs.length + j := ⟨i - xs.length,by omega⟩
      have e1' : (fv.map (·.1))[j]? = some y := by
        have z : (xs ++ fv.map (·.1))[xs.length + j]? = some y := e1
        rw [List.getElem?_append_right (by omega)] at z
        simpa using z
      have e2' : (fvs fv σ)[j]? = some (some v) := by
        rw [List.getElem?_append_right (by rw [List.length_replicate]; omega),List.length_replicate] at e2
        simpa using e2
      rw [List.getElem?_map] at e1'
      unfold fvs at e2'
      rw [List.getElem?_map] at e2'
      cases hq : fv[j]? with
      | none =>
        rw [hq] at e1'
        cases e1'
      | some q =>
        rw [hq] at e1' e2'
        have ey : q.1 = y := Option.some.inj e1'
        have ev : (σ[q.2]?).join = some v := Option.some.inj e2'
        have hm : q ∈ fv := List.mem_of_getElem? hq
        obtain ⟨s1,s2,s3,s4',s5⟩ := C.slot q hm
        have ev2 : σ[q.2]? = some (some v) := by
          cases hz : σ[q.2]? with
          | none =>
            rw [hz] at ev
            cases ev
          | some z =>
            rw [hz] at ev
            have ev' : z = some v := ev
            rw [ev']
        obtain ⟨m,hn,hl⟩ := I.loc
        obtain ⟨u,r,lk⟩ := hl q.2 q.1 v s1 ev2 s3
        obtain ⟨c,hc⟩ := Option.isSome_iff_exists.mp s4'
        refine ⟨u,r,.inr ⟨.inl (by rw [← ey]; exact s5),c,by rw [← ey]; exact hc,?_⟩⟩
        rcases lk with ⟨k,_⟩ | ⟨_,c',hc',z⟩
        · rw [s2] at k
          cases k
        · rw [hcl _ _ hc] at hc'
          cases hc'
          obtain ⟨o,ho',hd⟩ := z
          exact ⟨o,kp _ _ ho',hd⟩
  · obtain ⟨v,o,ho',hd⟩ := I.cell y c (hcl y c h)
    exact ⟨v,o,kp _ _ ho',hd⟩
theorem blk_runG {pins : List (Addr × Obj)} {σ : St} {H2 : Hp} {s2 : Shared} {it : Addr} {fp : List Addr} {tn : Nat → Heap → Prop} {J : It} {RR : Value → Addr → Result → Shared → Prop} {E : Value → Shared → Prop} {Qf : V → Hp → Prop}
    (hcalm : X.calm = true) (C : CompM X scope cl xs fv) (I2 : Inv X pins σ H2 s2) (T : Turn X.prog X.w X.K tg J fp it tn) (st : tn 0 s2.heap) (f2 : ∀ b ∈ fp,FpOk X pins H2 b)
    (rd : CompAtG J xs.length fv g tc te σ H2 Qf)
    (hg : ∀ (s₀ : Shared) (H₀ : Hp),PG (X.blk (xs ++ fv.map (·.1)) scope cl fp s₀ H₀) tg g) (ht : ∀ (s₀ : Shared) (H₀ : Hp),PTs (X.blk (xs ++ fv.map (·.1)) scope cl fp s₀ H₀) ifs tc)
    (he : ∀ (s₀ : Shared) (H₀ : Hp),PE (X.blk (xs ++ fv.map (·.1)) scope cl fp s₀ H₀) elt te)
    (hRR : ∀ (p C : Addr) (H' : Hp) (s' : Shared),(∃ m,s'.heap.Ns C m) → C ≠ X.env.locals → H' C = none → X.s₀.heap.objs.size ≤ C → (∀ y c,X.env.cells.lookup y = some c → c ≠ C) → (∀ q ∈ X.pn ++ pins,q.1 ≠ C) → Inv X pins σ H' s' → Qf (.ref p) H' → RR (.ref p) C (.ok .next) s') :
    wpAny (model X.prog X.w) X.A (newList []) (fun acc s₃ => wpAny (model X.prog X.w) X.A (newFunctionEnv scope X.env.globals cl [] X.env.qual none .none (some X.env)) (fun cenv s₄ =>
      codeAny (model X.prog X.w) X.A (.compStart (.ListComp elt [⟨tg,iter,ifs,0⟩] scope pos) 0 (.ref it) acc { cenv with scope := relabel scope X.env }) (RR acc cenv.locals) s₄) E s₃) E s2 := by
  refine wpAny_newObj_type ?_
  have hfresh := I2.fresh
  have I3 : Inv X pins σ (upd H2 s2.heap.objs.size (.lst [])) { s2 with heap := s2.heap.push { cls := .type "list",data := .seq ([] : List Value).toArray } } :=
    I2.laid (t' := s2.toks) (fun b u q => Heap.get?_push_of_some _ q) (Nat.le_refl _) ⟨Nat.zero_le _,[],0,.nil,Heap.get?_push_size _ rfl⟩
  generalize hs3 : ({ s2 with heap := s2.heap.push { cls := .type "list",data := .seq ([] : List Value).toArray } } : Shared) = s3 at I3 ⊢
  have hp3 : s2.heap.objs.size < s3.heap.objs.size := by rw [← hs3]; exact Nat.lt_of_lt_of_le (Nat.lt_succ_self _) (Nat.le_of_eq (Heap.size_push _ _).symm)
  have k23 : ∀ b o,s2.heap.get? b = some o → s3.heap.get? b = some o := fun b o e => by rw [← hs3]; exact Heap.get?_push_of_some _ e
  have fpo : ∀ b ∈ fp,b < s2.heap.objs.size := fun b hb => by
    obtain ⟨o,e,_⟩ := T.obj 0 _ st b hb
    exact Heap.lt_size e
  have f3 : ∀ b ∈ fp,FpOk X pins (upd H2 s2.heap.objs.size (.lst [])) b := fun b hb => ⟨by rw [upd_ne (Nat.ne_of_lt (fpo b hb))]; exact (f2 b hb).1,(f2 b hb).2⟩
  refine wpAny_newFunctionEnv C.cell (by intro y hy; simp at hy) (fun h1 hns1 hsb1 => ?_) C.kind
  have kp : ∀ b o,s3.heap.get? b = some o → h1.get? b = some o := fun b o e => (hsb1.2 b (Nat.ne_of_lt (Heap.lt_size e))).trans (Heap.get?_push_of_some _ e)
  have I4 := blk_invG (s4 := { s3 with heap := h1,toks := s3.toks + ([] : List (Str × Value)).length }) C I3 f3 (fun b hb => Nat.lt_trans (fpo b hb) hp3) ⟨rfl,rfl⟩ hns1 kp
  have st4 : tn 0 h1 := T.keep 0 _ _ st fun b _ o e => kp b o (k23 b o e)
  obtain ⟨W,⟨m0,w0⟩,step⟩ := rd _ hfresh
  have loop : codeAny (model X.prog X.w) X.A (.compLoop (.ListComp elt [⟨tg,iter,ifs,0⟩] scope pos) 0 (.ref it) (.ref s2.heap.objs.size) (compEnvC scope cl s3.heap.objs.size X.env)) (RR (.ref s2.heap.objs.size) s3.heap.objs.size)
      { s3 with heap := h1,toks := s3.toks + ([] : List (Str × Value)).length } := by
    refine compLoop_go (fun n s => ∃ i acc τ H',τ.length = xs.length ∧ Inv (X.blk (xs ++ fv.map (·.1)) scope cl fp s3 (upd H2 s2.heap.objs.size (.lst []))) [] (τ ++ fvs fv σ) H' s ∧ tn i s.heap ∧ (∀ b ∈ fp,H' b = none) ∧ W i n acc H') ?_ m0 ⟨0,[],List.replicate xs.length none,_,List.length_replicate,I4,st4,fun b hb => (f3 b hb).1,w0⟩
    rintro n s ⟨i,acc,τ,H',hτ,I',st',fr',w'⟩
    obtain ⟨hp,hlen,alt⟩ := step i n acc H' w'
    have fpk : ∀ {H5 : Hp},(∀ b ∈ fp,H5 b = none) → ∀ b ∈ fp,FpOk (X.blk (xs ++ fv.map (·.1)) scope cl fp s3 (upd H2 s2.heap.objs.size (.lst []))) [] H5 b := fun h5 b hb =>
      ⟨h5 b hb,(I'.ok.exf b hb).1,I'.ok.exfs b hb,.inl hb,fun y c e => (I'.ok.exf b hb).2 y c e,fun q hq => by simp at hq⟩
    rcases alt with ⟨stop,qf⟩ | ⟨go,turn⟩
    · refine wpAny_mono (T.done (X.blk (xs ++ fv.map (·.1)) scope cl fp s3 (upd H2 s2.heap.objs.size (.lst []))) rfl rfl rfl hcalm i [] s _ H' (fun _ _ => False) I' (fpk fr') st' stop) (fun r s5 ⟨hr,I5⟩ => ?_) fun _ _ z => False.elim z
      subst hr
      refine hRR _ _ H' s5 (let ⟨m,hn,_⟩ := I5.loc; ⟨m,hn⟩) (Nat.ne_of_gt I3.lt) I5.free I3.sz (fun y c e => ?_) (fun q hq => ?_) ?_ qf
      · obtain ⟨v,z⟩ := I3.cell y c e
        exact Nat.ne_of_lt z.lt
      · exact Nat.ne_of_lt (Heap.lt_size (I3.pin q hq).1)
      · exact I3.call' (s' := s5) (ch := fp) I5.os I5.base I5.hok I5.bare fun b hb => ⟨(f2 b hb).2.2.2.1,(f2 b hb).2.1,(f2 b hb).2.2.2.2.1,(f2 b hb).2.2.2.2.2⟩
    · refine wpAny_mono (T.item (X.blk (xs ++ fv.map (·.1)) scope cl fp s3 (upd H2 s2.heap.objs.size (.lst []))) rfl rfl rfl hcalm i [] s _ H' (fun _ _ => False) I' (fpk fr') st' go) (fun r s5 ⟨u,hr,h5⟩ => ?_) fun _ _ z => False.elim z
      subst hr
      refine wpAny_mono h5 (fun _ s6 ⟨y,H6,I6,r6,y6,st6,fr6⟩ => ?_) fun _ _ z => False.elim z
      have I6' := I6.pinned (fpk fr6) (T.obj _ _ st6)
      have rt := turn y _ y6 τ hτ
      refine wpAny_mono (hg s3 _ _ s6 _ H6 y u _ I6' r6 rt) (fun _ s7 ⟨σ7,H7,I7,⟨τ',hτ',e7⟩,q7⟩ => ?_) fun _ _ z => False.elim z
      subst e7
      refine wpAny_mono (ht s3 _ _ s7 _ _ _ I7 q7) (fun b s7b ⟨H7b,I7b,q7b⟩ => ?_) fun _ _ z => False.elim z
      have kp6 : ∀ {σ9 : St} {H9 : Hp} {s9 : Shared},Inv (X.blk (xs ++ fv.map (·.1)) scope cl fp s3 (upd H2 s2.heap.objs.size (.lst []))) ([] ++ pinsAt fp s6.heap) σ9 H9 s9 → tn (i + 1) s9.heap ∧ ∀ b ∈ fp,H9 b = none := fun {σ9 H9 s9} I9 => by
        refine ⟨T.keep _ _ _ st6 fun b hb o e => (I9.pin (b,o) (List.mem_append_right _ (List.mem_append_right _ (mem_pinsAt hb e)))).1,fun b hb => ?_⟩
        obtain ⟨o,e,d⟩ := T.obj _ _ st6 b hb
        exact (I9.pin (b,o) (List.mem_append_right _ (List.mem_append_right _ (mem_pinsAt hb e)))).2.1
      cases b with
      | false =>
        obtain ⟨m',hm',w8⟩ := q7b
        exact ⟨m',hm',i + 1,acc,τ',_,hτ',I7b.unpinned,(kp6 I7b).1,(kp6 I7b).2,w8⟩
      | true =>
        refine wpAny_mono (he s3 _ _ s7b _ _ _ I7b q7b) (fun v8 s8 ⟨y8,H8,I8,r8,q8,m',hm',w8⟩ => ?_) fun _ _ z => False.elim z
        refine wpAny_mono (mt_append (X := X.blk (xs ++ fv.map (·.1)) scope cl fp s3 (upd H2 s2.heap.objs.size (.lst []))) _ s8 _ H8 (.ref s2.heap.objs.size) [y8] (.ref s2.heap.objs.size) [v8] (fun _ H9 => H9 = upd H8 s2.heap.objs.size (.lst (acc ++ [y8]))) I8 rfl (.cons r8 .nil) ⟨_,acc,y8,rfl,rfl,q8,hlen,rfl⟩) (fun _ s9 ⟨_,H9,I9,_,e9⟩ => ?_) fun _ _ z => False.elim z
        subst e9
        exact ⟨m',hm',i + 1,acc ++ [y8],τ',_,hτ',I9.unpinned,(kp6 I9).1,(kp6 I9).2,w8⟩
  exact codeAny_compStart_list loop (T.self _ 0 _ _ _ st4 loop)
theorem pe_compG {wi : TI} (hcalm : X.calm = true) (C : CompM X scope cl xs fv) (hi : PI X tg iter wi) (hg : ∀ (fp : List Addr) (s₀ : Shared) (H₀ : Hp),PG (X.blk (xs ++ fv.map (·.1)) scope cl fp s₀ H₀) tg g) (ht : ∀ (fp : List Addr) (s₀ : Shared) (H₀ : Hp),PTs (X.blk (xs ++ fv.map (·.1)) scope cl fp s₀ H₀) ifs tc) (he : ∀ (fp : List Addr) (s₀ : Shared) (H₀ : Hp),PE (X.blk (xs ++ fv.map (·.1)) scope cl fp s₀ H₀) elt te)
    (hs : ∀ v,foldedSetIterable iter X.env v = pure v := by intro _; rfl) : PE X (.ListComp elt [⟨tg,iter,ifs,0⟩] scope pos) (tCompG wi xs.length fv g tc te) := by
  intro pins s σ H Q I h
  rw [eval_ListComp]
  refine wpAny_comprehension_free (use := none) rfl hs C.clos C.kind C.names (wpAny_mono (hi pins s σ H _ I h) (fun v s1 h1 => wpAny_mono h1 (fun itv s2 h2 => ?_) fun _ _ z => z) fun _ _ z => z)
  obtain ⟨it,fp,tn,J,H2,rfl,I2,T,st2,f2,rd⟩ := h2
  refine blk_runG (Qf := Q) hcalm C I2 T st2 f2 rd (hg fp) (ht fp) (he fp) fun p D H' s' ns nL nH n0 nC nP I8 q => ?_
  obtain ⟨m,hn⟩ := ns
  exact ⟨m,hn,fun h'' sb => ⟨.ref p,H',I8.turned (t' := s'.toks) (fun b o hb e => (sb.2 b hb).trans e) nH nL (.inr n0) nC nP,rfl,q⟩⟩
theorem ps_setCompG {wi : TI} {y : Str} {j : Nat} {py spos : Pos} (hcalm : X.calm = true) (C : CompM X scope cl xs fv) (hN : X.N.Nodup) (hj : X.N[j]? = some y) (hy : X.env.scope.names.lookup y = some .local) (hi : PI X tg iter wi) (hg : ∀ (fp : List Addr) (s₀ : Shared) (H₀ : Hp),PG (X.blk (xs ++ fv.map (·.1)) scope cl fp s₀ H₀) tg g) (ht : ∀ (fp : List Addr) (s₀ : Shared) (H₀ : Hp),PTs (X.blk (xs ++ fv.map (·.1)) scope cl fp s₀ H₀) ifs tc) (he : ∀ (fp : List Addr) (s₀ : Shared) (H₀ : Hp),PE (X.blk (xs ++ fv.map (·.1)) scope cl fp s₀ H₀) elt te)
    (hsw : swapsWith (.ListComp elt [⟨tg,iter,ifs,0⟩] scope pos) (some (.Name y py)) spos.line X.env = pure true := by rfl)
    (hs : ∀ v,foldedSetIterable iter X.env v = pure v := by intro _; rfl) : PS X (.Assign [.Name y py] (.ListComp elt [⟨tg,iter,ifs,0⟩] scope pos) spos) (tAsg (tCompG wi xs.length fv g tc te) (gName j)) := by
  intro pins s σ H D I h
  rw [exec_Assign_Name_used _ _ _ _ hsw]
  refine wpAny_bind (wpAny_standAt (wpAny_bind ?_))
  show wpAny _ _ (do let _ ← comprehension (.ListComp elt [⟨tg,iter,ifs,0⟩] scope pos) scope X.env _ (newList []) false (eval iter X.env) (some (assign (.Name y py) X.env))) _ _ s
  refine wpAny_bind (wpAny_mono (wpAny_comprehension_free (use := some (assign (.Name y py) X.env)) (Q := fun _ s' => SP X pins D .next s') rfl hs C.clos C.kind C.names
    (wpAny_mono (hi pins s σ H _ I h) (fun v s1 h1 => wpAny_mono h1 (fun itv s2 h2 => ?_) fun _ _ z => z) fun _ _ z => z)) (fun _ s' hq => wpAny_pure (wpAny_pure hq)) fun _ _ z => z)
  obtain ⟨it,fp,tn,J,H2,rfl,I2,T,st2,f2,rd⟩ := h2
  refine blk_runG (Qf := fun v H' => gName j v σ H' D.nx) hcalm C I2 T st2 f2 rd (hg fp) (ht fp) (he fp) fun p D' H' s' ns nL nH n0 nC nP I8 q => ?_
  obtain ⟨m,hn⟩ := ns
  show wpAny _ _ (assign (.Name y py) X.env (.ref p)) _ _ _
  refine wpAny_assign_Name (store_ok2 I8 hN hj (.inl hy) (v := .ref p) rfl (fun s9 I9 ⟨a,sb,ha⟩ => ?_) (.inr hy))
  have aD : D' ≠ a := by
    rintro rfl
    rcases ha with z | z
    · exact nL z
    · exact nC y _ z rfl
  exact ⟨m,hn.sameBut sb aD,fun h'' sb2 => ⟨_,H',I9.turned (t' := s9.toks) (fun b o hb e => (sb2.2 b hb).trans e) nH nL (.inr n0) nC nP,q⟩⟩
end
end L2
namespace L2
open PySem PySem.Spec PyProof.Rows
end L2
namespace L2
open PySem PySem.Spec PyProof.Rows
theorem comp_dictF {a : Addr} {o : Obj} {kvs : List (List Key × V)} {fv : List (Str × Nat)} {g : TG} {tc : TT} {te : TE} {σ : St} {H1 : Hp} {Q : VK} {k : Nat} (hD : H1 a = some (.frz o (.dT kvs))) (hlen : kvs.length < 1000) (sel : List Key × V → Bool) (R : List Key × V → V → Hp → Prop) (hR : ∀ e v H H',SameT H H' → R e v H → R e v H')
    (hs : ∀ (i : Nat) e b H2 (τ : St) (Kc : VK) (Kn : Hp → Prop),kvs[i]? = some e → H2 b = some (.tup (e.1.map kV)) → Same H1 H2 → τ.length = k → (sel e = true → ∀ y H4,Same H2 H4 → R e y H4 → Kc y H4) → (sel e = false → ∀ H4,Same H2 H4 → Kn H4) →
      g (.ref b) (τ ++ fvs fv σ) H2 fun σ2 H4 => (∃ τ' : St,τ'.length = k ∧ σ2 = τ' ++ fvs fv σ) ∧ tc σ2 H4 fun b H5 => if b = true then te σ2 H5 Kc else Kn H5)
    (hd : ∀ l ys H',H1 l = none → Same H1 H' → H' l = some (.lst ys) → Paired (fun e y => R e y H') (kvs.filter sel) ys → Q (.ref l) H') : CompAtG (Itd a o kvs) k fv g tc te σ H1 Q := by
  intro l hl
  refine ⟨fun i m acc H2 => m = kvs.length - i ∧ i ≤ kvs.length ∧ acc.length ≤ i ∧ Same H1 H2 ∧ H2 l = some (.lst acc) ∧ Paired (fun e y => R e y H2) ((kvs.take i).filter sel) acc,⟨_,rfl,Nat.zero_le _,Nat.le_refl _,Same.new hl,upd_same,.nil⟩,?_⟩
  rintro i m acc H2 ⟨rfl,hi,e1,sm,e3,hr⟩
  refine ⟨e3,small1000 (by omega),?_⟩
  by_cases hlt : i < kvs.length
  · refine .inr ⟨⟨sm _ _ hD,hlt⟩,fun x H3 y τ hτ => ?_⟩
    obtain ⟨rfl,q,v,b,hq,rfl,hb⟩ := y
    have tk : kvs.take (i + 1) = kvs.take i ++ [(q,v)] := by rw [List.take_add_one,hq]; rfl
    refine hs i (q,v) b H3 τ _ _ hq hb sm hτ (fun hsel y H4 s4 ry => ⟨s4 _ _ e3,kvs.length - (i + 1),by omega,rfl,hlt,by simp; exact e1,(sm.trans s4).upd hl,upd_same,?_⟩) fun hsel H4 s4 => ⟨kvs.length - (i + 1),by omega,rfl,hlt,by omega,sm.trans s4,s4 _ _ e3,?_⟩
    · have t4 := SameT.upd (ys := acc ++ [y]) (s4 _ _ e3)
      rw [tk,List.filter_append]
      have : [(q,v)].filter sel = [(q,v)] := by simp [hsel]
      rw [this]
      exact Paired.snoc (Paired.mapP hr fun e z r => hR _ _ _ _ (s4.t.trans t4) r) (hR _ _ _ _ t4 ry)
    · rw [tk,List.filter_append]
      have : [(q,v)].filter sel = [] := by simp [hsel]
      rw [this,List.append_nil]
      exact Paired.mapP hr fun e z r => hR _ _ _ _ s4.t r
  · have e : i = kvs.length := by omega
    subst e
    rw [List.take_length] at hr
    exact .inl ⟨⟨sm _ _ hD,Nat.le_refl _⟩,hd l acc H2 hl sm e3 hr⟩
end L2
namespace Sk
open PySem PySem.Spec L2
abbrev Spot := List Key
def SpotAt (H : Hp) (v : V) (k : Spot) : Prop := ∃ p,v = .ref p ∧ H p = some (.tup (k.map kV))
theorem SpotAt.mono {H H' : Hp} {v : V} {k : Spot} (x : SpotAt H v k) (s : SameT H H') : SpotAt H' v k := let ⟨p,e,h⟩ := x; ⟨p,e,s _ _ h⟩
abbrev En := Spot × Option Nat × V
def Ent (H : Hp) (es : List En) (e : En) (kv : Spot × V) : Prop := kv.1 = e.1 ∧ ∃ t pv,kv.2 = .ref t ∧ H t = some (.tup [pv,e.2.2]) ∧ (e.2.1 = none → pv = .non) ∧ ∀ j,e.2.1 = some j → ∃ e',es[j]? = some e' ∧ SpotAt H pv e'.1
structure Tree (es : List En) : Prop where
  nd : (es.map (·.1)).Nodup
  up : ∀ (i : Nat) (e : En) (j : Nat),es[i]? = some e → e.2.1 = some j → j < i
def Came (H : Hp) (d : Addr) (es : List En) : Prop := ∃ kvs,H d = some (.dT kvs) ∧ Paired (Ent H es) es kvs
theorem Ent.mono {H H' : Hp} {es es' : List En} {e : En} {kv : Spot × V} (x : Ent H es e kv) (s : SameT H H') (h : ∀ (j : Nat) e,es[j]? = some e → es'[j]? = some e) : Ent H' es' e kv := by
  obtain ⟨a,t,pv,b,c,d,f⟩ := x
  refine ⟨a,t,pv,b,s _ _ c,d,fun j hj => ?_⟩
  obtain ⟨e',h1,h2⟩ := f j hj
  exact ⟨e',h j e' h1,h2.mono s⟩
theorem paired_get {α β : Type} {F : α → β → Prop} : ∀ {l : List α} {m : List β},Paired F l m → ∀ (i : Nat) (a : α),l[i]? = some a → ∃ b,m[i]? = some b ∧ F a b := by
  intro l m p
  induction p with
  | nil => intro i a e; simp at e
  | cons h r ih =>
    intro i a e
    cases i with
    | zero => simp at e; subst e; exact ⟨_,rfl,h⟩
    | succ j => exact ih j a (by simpa using e)
theorem paired_get' {α β : Type} {F : α → β → Prop} : ∀ {l : List α} {m : List β},Paired F l m → ∀ (i : Nat) (b : β),m[i]? = some b → ∃ a,l[i]? = some a ∧ F a b := by
  intro l m p
  induction p with
  | nil => intro i a e; simp at e
  | cons h r ih =>
    intro i a e
    cases i with
    | zero => simp at e; subst e; exact ⟨_,rfl,h⟩
    | succ j => exact ih j a (by simpa using e)
theorem nodup_idx {α : Type} {l : List α} (nd : l.Nodup) {i j : Nat} {a : α} (hi : l[i]? = some a) (hj : l[j]? = some a) : i = j := by
  obtain ⟨h1,e1⟩ := List.getElem?_eq_some_iff.mp hi
  obtain ⟨h2,e2⟩ := List.getElem?_eq_some_iff.mp hj
  have pw := List.pairwise_iff_getElem.mp nd
  rcases Nat.lt_trichotomy i j with z | z | z
  · exact absurd (e1.trans e2.symm) (pw i j h1 h2 z)
  · exact z
  · exact absurd (e2.trans e1.symm) (pw j i h2 h1 z)
theorem paired_rev {α β : Type} {F : α → β → Prop} : ∀ {l : List α} {m : List β},Paired F l m → Paired F l.reverse m.reverse := by
  intro l m p
  induction p with
  | nil => exact .nil
  | cons h r ih =>
    rw [List.reverse_cons,List.reverse_cons]
    exact Paired.snoc ih h
theorem keys_eq {H : Hp} {es' : List En} : ∀ {es : List En} {kvs : List (Spot × V)},Paired (Ent H es') es kvs → kvs.map (·.1) = es.map (·.1) := by
  intro es kvs p
  induction p with
  | nil => rfl
  | cons h r ih => rw [List.map_cons,List.map_cons,ih,h.1]
theorem valV_at : ∀ {kvs : List (Spot × V)} {i : Nat} {kv : Spot × V},(kvs.map (·.1)).Nodup → kvs[i]? = some kv → valV kvs kv.1 = some kv.2 := by
  intro kvs
  induction kvs with
  | nil => intro i kv _ e; simp at e
  | cons a r ih =>
    intro i kv nd e
    rw [List.map_cons,List.nodup_cons] at nd
    cases i with
    | zero => simp at e; subst e; exact valV_pos rfl
    | succ j =>
      have e : r[j]? = some kv := by simpa using e
      rw [valV_neg (fun z => nd.1 (by rw [z]; exact List.mem_map.mpr ⟨kv,List.mem_of_getElem? e,rfl⟩))]
      exact ih nd.2 e
theorem valV_out : ∀ {kvs : List (Spot × V)} {k : Spot},k ∉ kvs.map (·.1) → valV kvs k = none := by
  intro kvs
  induction kvs with
  | nil => intro k _; rfl
  | cons a r ih =>
    intro k h
    rw [List.map_cons,List.mem_cons,not_or] at h
    rw [valV_neg (fun z => h.1 z.symm)]
    exact ih h.2
theorem valV_in {kvs : List (Spot × V)} {k : Spot} (h : k ∈ kvs.map (·.1)) : (valV kvs k).isSome = true := by
  induction kvs with
  | nil => simp at h
  | cons a r ih =>
    by_cases z : a.1 = k
    · rw [valV_pos z]; rfl
    · rw [valV_neg z]
      rw [List.map_cons,List.mem_cons] at h
      exact ih (h.resolve_left fun q => z q.symm)
theorem Came.mono {H H' : Hp} {d : Addr} {es : List En} (c : Came H d es) (s : Same H H') : Came H' d es := by
  obtain ⟨kvs,e1,e2⟩ := c
  exact ⟨kvs,s _ _ e1,Paired.mapP e2 fun a b x => x.mono s.t fun _ _ h => h⟩
theorem Came.look {H : Hp} {d : Addr} {es : List En} (c : Came H d es) {s : Spot} {b : Addr} (hb : H b = some (.tup (s.map kV))) : ∃ o,DGet H d (.ref b) o ∧ (o.isSome = true ↔ s ∈ es.map (·.1)) := by
  obtain ⟨kvs,e1,e2⟩ := c
  refine ⟨_,DGet.t e1 hb,?_⟩
  rw [← keys_eq e2]
  constructor
  · intro h
    by_cases z : s ∈ kvs.map (·.1)
    · exact z
    · rw [valV_out z] at h; cases h
  · exact valV_in
theorem Came.add {H : Hp} {d : Addr} {es : List En} (c : Came H d es) {s : Spot} {b t : Addr} {pv h : V} {pj : Option Nat} (hb : H b = some (.tup (s.map kV))) (ht : H t = some (.tup [pv,h])) (hs : s ∉ es.map (·.1)) (h0 : pj = none → pv = .non) (h1 : ∀ j,pj = some j → ∃ e',es[j]? = some e' ∧ SpotAt H pv e'.1) (hl : es.length < 1000) :
    ∃ H',DPut H d (.ref b) (.ref t) H' ∧ Came H' d (es ++ [(s,pj,h)]) ∧ SameT H H' ∧ ∀ x,x ≠ d → H' x = H x := by
  obtain ⟨kvs,e1,e2⟩ := c
  have len := Paired.length e2
  have new : putK kvs s (.ref t) = kvs ++ [(s,.ref t)] := putK_new _ (valV_out (by rw [keys_eq e2]; exact hs))
  have st : SameT H (upd H d (.dT (putK kvs s (.ref t)))) := fun x xs e => by
    rw [upd_ne (fun z => by rw [z,e1] at e; cases e)]; exact e
  refine ⟨_,DPut.t (k := s) (v := .ref t) e1 hb (by have := small1000 (n := kvs.length) (by omega); exact this),⟨_,upd_same,?_⟩,st,fun x hx => upd_ne hx⟩
  have keep : ∀ (j : Nat) (e : En),es[j]? = some e → (es ++ [(s,pj,h)])[j]? = some e := fun j e he => by
    rw [List.getElem?_append_left (List.getElem?_eq_some_iff.mp he).1]; exact he
  have last : Ent (upd H d (.dT (putK kvs s (.ref t)))) (es ++ [(s,pj,h)]) (s,pj,h) (s,.ref t) := ⟨rfl,t,pv,rfl,st _ _ ht,h0,fun j hj => by
    obtain ⟨e',g1,g2⟩ := h1 j hj
    exact ⟨e',keep _ _ g1,g2.mono st⟩⟩
  have all := Paired.snoc (Paired.mapP e2 fun a b x => x.mono st keep) last
  rw [← new] at all
  exact all
inductive Path (es : List En) : Nat → List (Spot × V) → Prop
  | root {i : Nat} {s : Spot} {h : V} : es[i]? = some (s,none,h) → Path es i [(s,h)]
  | step {i j : Nat} {s : Spot} {h : V} {l : List (Spot × V)} : es[i]? = some (s,some j,h) → Path es j l → Path es i (l ++ [(s,h)])
def RoadAt (H : Hp) (r : Addr) (l : List (Spot × V)) : Prop := ∃ vs,H r = some (.lst vs) ∧ Paired (fun (e : Spot × V) v => ∃ t sv,v = .ref t ∧ H t = some (.tup [sv,e.2]) ∧ SpotAt H sv e.1) l vs
def StepsAt (H : Hp) (r : Addr) (l : List (Spot × V)) : Prop := RoadAt H r l
def Left (es : List En) (cur : Option Nat) (i : Nat) (done : List (Spot × V)) : Prop := ∀ l,(match cur with | some j => Path es j l | none => l = []) → Path es i (l ++ done.reverse)
theorem Left.begin {es : List En} {i : Nat} : Left es (some i) i [] := fun l h => by simpa using h
theorem Left.up {es : List En} {i j : Nat} {done : List (Spot × V)} {s : Spot} {pj : Option Nat} {h : V} (x : Left es (some j) i done) (e : es[j]? = some (s,pj,h)) : Left es pj i (done ++ [(s,h)]) := by
  intro l hl
  rw [List.reverse_append]
  show Path es i (l ++ ([(s,h)] ++ done.reverse))
  rw [← List.append_assoc]
  refine x _ ?_
  cases pj with
  | none =>
    have : l = [] := hl
    subst this
    exact .root e
  | some j' => exact .step e hl
def spRowTo : Sp := fun vs H Q _ => ∃ (d : Addr) (sv : V) (es : List En) (i : Nat) (e : En),vs = [.ref d,sv] ∧ Came H d es ∧ Tree es ∧ es[i]? = some e ∧ SpotAt H sv e.1 ∧ es.length < 1000 ∧ ∀ r H' l,Same H H' → Path es i l → l.length ≤ es.length → RoadAt H' r l → Q (.ref r) H'
def Road (bs : List Spot) (stp : Spot → List (Spot × V)) (fin : Spot → Bool) (l : List (Spot × V)) : Prop :=
  (∃ s r,l = (s,.non) :: r ∧ s ∈ bs) ∧ (∀ (n : Nat) a b,l[n]? = some a → l[n + 1]? = some b → b ∈ stp a.1) ∧ ∃ a,l.getLast? = some a ∧ fin a.1 = true
def Shut (bs : List Spot) (stp : Spot → List (Spot × V)) (fin : Spot → Bool) : Prop := ∃ R : List Spot,(∀ s ∈ bs,s ∈ R) ∧ (∀ s ∈ R,∀ e ∈ stp s,e.1 ∈ R) ∧ ∀ s ∈ R,fin s = false
structure Grown (bs : List Spot) (stp : Spot → List (Spot × V)) (es : List En) : Prop where
  root : ∀ (i : Nat) e,es[i]? = some e → e.2.1 = none → e.1 ∈ bs ∧ e.2.2 = .non
  step : ∀ (i j : Nat) e,es[i]? = some e → e.2.1 = some j → ∃ e',es[j]? = some e' ∧ (e.1,e.2.2) ∈ stp e'.1
theorem road_of {bs : List Spot} {stp : Spot → List (Spot × V)} {fin : Spot → Bool} {es : List En} (g : Grown bs stp es) {i : Nat} {l : List (Spot × V)} (p : Path es i l) :
    (∃ s r,l = (s,.non) :: r ∧ s ∈ bs) ∧ (∀ (n : Nat) a b,l[n]? = some a → l[n + 1]? = some b → b ∈ stp a.1) ∧ ∃ e,es[i]? = some e ∧ l.getLast? = some (e.1,e.2.2) := by
  induction p with
  | root e =>
    obtain ⟨h1,h2⟩ := g.root _ _ e rfl
    dsimp only at h1 h2
    subst h2
    exact ⟨⟨_,[],rfl,h1⟩,fun n a b _ h => by simp at h,_,e,rfl⟩
  | step e p ih =>
    obtain ⟨⟨s,r,rfl,hs⟩,st,e',h1,h2⟩ := ih
    refine ⟨⟨s,r ++ _,rfl,hs⟩,fun n a b ha hb => ?_,_,e,List.getLast?_concat⟩
    rcases Nat.lt_trichotomy (n + 1) ((s,V.non) :: r).length with z | z | z
    · rw [List.getElem?_append_left (by omega)] at ha
      rw [List.getElem?_append_left z] at hb
      exact st n a b ha hb
    · rw [List.getElem?_append_left (by omega)] at ha
      rw [List.getElem?_append_right (by omega),z,Nat.sub_self] at hb
      simp only [List.getElem?_cons_zero,Option.some.injEq] at hb
      rw [List.getLast?_eq_getElem?] at h2
      have ea : ((s,V.non) :: r).length - 1 = n := by omega
      rw [ea,ha] at h2
      cases h2
      obtain ⟨e2,g1,g2⟩ := g.step _ _ _ e rfl
      rw [h1] at g1
      cases g1
      rw [← hb]
      exact g2
    · rw [List.getElem?_eq_none (by simp at z ⊢; omega)] at hb
      cases hb
structure Fns (P : Program) (w : World) (K : PySem.W.Frag) (mg : Str → Option Value) (base : Heap) (k : Nat) (H : Hp) (f1 f2 : Addr) (U : List Spot) (stp : Spot → List (Spot × V)) (fin : Spot → Bool) : Prop where
  o1 : FObj H f1
  o2 : FObj H f2
  c1 : ∃ sp,IsFn P w K mg base k f1 sp ∧ ∀ H' v s (Q : VK),Same H H' → SpotAt H' v s → s ∈ U → (∀ r H'',Same H' H'' → H' r = none → StepsAt H'' r (stp s) → Q (.ref r) H'') → sp [v] H' Q E0
  c2 : ∃ sp,IsFn P w K mg base k f2 sp ∧ ∀ H' v s (Q : VK),Same H H' → SpotAt H' v s → s ∈ U → (∀ H'',Same H' H'' → Q (.bl (fin s)) H'') → sp [v] H' Q E0
  shut : ∀ s ∈ U,∀ e ∈ stp s,e.1 ∈ U
  few : ∀ s ∈ U,(stp s).length < 1000
noncomputable def ext1 (n : Nat) (es : List En) (x : Spot × V) : List En := @ite _ (x.1 ∈ es.map (·.1)) (Classical.propDecidable _) es (es ++ [(x.1,some n,x.2)])
noncomputable def stateAt (bs : List Spot) (stp : Spot → List (Spot × V)) : Nat → List En
  | 0 => bs.map fun s => (s,none,.non)
  | n + 1 => match (stateAt bs stp n)[n]? with
    | some e => (stp e.1).foldl (ext1 n) (stateAt bs stp n)
    | none => stateAt bs stp n
theorem ext1_keep {n i : Nat} {es : List En} {x : Spot × V} {e : En} (h : es[i]? = some e) : (ext1 n es x)[i]? = some e := by
  unfold ext1
  split
  · exact h
  · rw [List.getElem?_append_left (List.getElem?_eq_some_iff.mp h).1]
    exact h
theorem fold_keep {n i : Nat} {e : En} : ∀ {xs : List (Spot × V)} {es : List En},es[i]? = some e → (xs.foldl (ext1 n) es)[i]? = some e := by
  intro xs
  induction xs with
  | nil => exact fun h => h
  | cons a r ih => exact fun h => ih (ext1_keep h)
theorem state_keep {bs : List Spot} {stp : Spot → List (Spot × V)} {n i : Nat} {e : En} (h : (stateAt bs stp n)[i]? = some e) : ∀ k,(stateAt bs stp (n + k))[i]? = some e
  | 0 => h
  | k + 1 => by
    have ih := state_keep h k
    show (match (stateAt bs stp (n + k))[n + k]? with
      | some e => (stp e.1).foldl (ext1 (n + k)) (stateAt bs stp (n + k))
      | none => stateAt bs stp (n + k))[i]? = some e
    split
    · exact fold_keep ih
    · exact ih
def Found (bs : List Spot) (stp : Spot → List (Spot × V)) (fin : Spot → Bool) (l : List (Spot × V)) : Prop :=
  ∃ n e,(stateAt bs stp n)[n]? = some e ∧ fin e.1 = true ∧ (∀ i,i < n → ∃ e',(stateAt bs stp n)[i]? = some e' ∧ fin e'.1 = false) ∧ Path (stateAt bs stp n) n l
theorem path_uniq {es : List En} {i : Nat} {l l' : List (Spot × V)} (p : Path es i l) (p' : Path es i l') : l = l' := by
  induction p generalizing l' with
  | root e =>
    cases p' with
    | root e' => rw [e] at e'; cases e'; rfl
    | step e' _ => rw [e] at e'; cases e'
  | step e _ ih =>
    cases p' with
    | root e' => rw [e] at e'; cases e'
    | step e' q => rw [e] at e'; cases e'; rw [ih q]
theorem Found.uniq {bs : List Spot} {stp : Spot → List (Spot × V)} {fin : Spot → Bool} {l l' : List (Spot × V)} (f : Found bs stp fin l) (f' : Found bs stp fin l') : l = l' := by
  have one : ∀ {n n' : Nat} {e : En},(stateAt bs stp n)[n]? = some e → fin e.1 = true → (∀ i,i < n' → ∃ e',(stateAt bs stp n')[i]? = some e' ∧ fin e'.1 = false) → ¬ n < n' := fun {n n' e} h hf sn lt => by
    obtain ⟨e',h1,h2⟩ := sn n lt
    have := state_keep h (n' - n)
    rw [show n + (n' - n) = n' by omega,h1] at this
    cases this
    rw [h2] at hf
    cases hf
  obtain ⟨n,e,h1,h2,h3,h4⟩ := f
  obtain ⟨n',e',h1',h2',h3',h4'⟩ := f'
  have a := one h1 h2 h3'
  have b := one h1' h2' h3
  have : n = n' := by omega
  subst this
  exact path_uniq h4 h4'
def spSeek (P : Program) (w : World) (K : PySem.W.Frag) (mg : Str → Option Value) (base : Heap) (k : Nat) : Sp := fun vs H Q _ =>
  ∃ (b f1 f2 : Addr) (bvs : List V) (bs U : List Spot) (stp : Spot → List (Spot × V)) (fin : Spot → Bool),vs = [.ref b,.ref f1,.ref f2] ∧ H b = some (.lst bvs) ∧ Paired (fun s v => SpotAt H v s) bs bvs ∧ bs.Nodup ∧ (∀ s ∈ bs,s ∈ U) ∧ U.length < 900 ∧
    Fns P w K mg base k H f1 f2 U stp fin ∧ (∀ H',Same H H' → Shut bs stp fin → Q .non H') ∧ ∀ r H' l,Same H H' → Road bs stp fin l → Found bs stp fin l → l.length ≤ U.length → RoadAt H' r l → Q (.ref r) H'
theorem nodup_len' {α : Type} [DecidableEq α] {l U : List α} (nd : l.Nodup) (h : ∀ s ∈ l,s ∈ U) : l.length ≤ U.length := by
  induction l generalizing U with
  | nil => exact Nat.zero_le _
  | cons a r ih =>
    rw [List.nodup_cons] at nd
    have ha := h a List.mem_cons_self
    have := ih (U := U.erase a) nd.2 fun s hs => by
      refine (List.mem_erase_of_ne ?_).mpr (h s (List.mem_cons_of_mem _ hs))
      rintro rfl
      exact nd.1 hs
    rw [List.length_erase_of_mem ha] at this
    have hp : 0 < U.length := List.length_pos_of_mem ha
    rw [List.length_cons]
    omega
theorem nodup_len {l U : List Spot} (nd : l.Nodup) (h : ∀ s ∈ l,s ∈ U) : l.length ≤ U.length := by
  classical exact nodup_len' nd h
structure Going (bs U : List Spot) (stp : Spot → List (Spot × V)) (fin : Spot → Bool) (es : List En) (n : Nat) : Prop where
  tree : Tree es
  grown : Grown bs stp es
  inU : ∀ e ∈ es,e.1 ∈ U
  base : ∀ s ∈ bs,s ∈ es.map (·.1)
  le : n ≤ es.length
  seen : ∀ (i : Nat) e,i < n → es[i]? = some e → fin e.1 = false ∧ ∀ x ∈ stp e.1,x.1 ∈ es.map (·.1)
theorem Going.len {bs U : List Spot} {stp : Spot → List (Spot × V)} {fin : Spot → Bool} {es : List En} {n : Nat} (g : Going bs U stp fin es n) : es.length ≤ U.length := by
  have := nodup_len g.tree.nd (U := U) fun s hs => by
    obtain ⟨e,he,rfl⟩ := List.mem_map.mp hs
    exact g.inU e he
  rw [List.length_map] at this
  exact this
theorem Going.shut {bs U : List Spot} {stp : Spot → List (Spot × V)} {fin : Spot → Bool} {es : List En} {n : Nat} (g : Going bs U stp fin es n) (h : es.length ≤ n) : Shut bs stp fin := by
  refine ⟨es.map (·.1),g.base,fun s hs x hx => ?_,fun s hs => ?_⟩
  · obtain ⟨e,he,rfl⟩ := List.mem_map.mp hs
    obtain ⟨i,hi⟩ := List.getElem?_of_mem he
    exact (g.seen i e (Nat.lt_of_lt_of_le (List.getElem?_eq_some_iff.mp hi).1 h) hi).2 x hx
  · obtain ⟨e,he,rfl⟩ := List.mem_map.mp hs
    obtain ⟨i,hi⟩ := List.getElem?_of_mem he
    exact (g.seen i e (Nat.lt_of_lt_of_le (List.getElem?_eq_some_iff.mp hi).1 h) hi).1
theorem Going.add {bs U : List Spot} {stp : Spot → List (Spot × V)} {fin : Spot → Bool} {es : List En} {n j : Nat} (g : Going bs U stp fin es n) {e0 : En} {s : Spot} {h : V} (hj : es[j]? = some e0) (hs : (s,h) ∈ stp e0.1) (hU : s ∈ U) (hn : s ∉ es.map (·.1)) :
    Going bs U stp fin (es ++ [(s,some j,h)]) n := by
  have old : ∀ (i : Nat) e,(es ++ [(s,some j,h)])[i]? = some e → es[i]? = some e ∨ (i = es.length ∧ e = (s,some j,h)) := fun i e he => by
    rcases Nat.lt_trichotomy i es.length with z | z | z
    · rw [List.getElem?_append_left z] at he; exact .inl he
    · rw [List.getElem?_append_right (by omega),z,Nat.sub_self] at he
      simp only [List.getElem?_cons_zero,Option.some.injEq] at he
      exact .inr ⟨z,he.symm⟩
    · rw [List.getElem?_eq_none (by simp; omega)] at he; cases he
  have keep : ∀ (i : Nat) e,es[i]? = some e → (es ++ [(s,some j,h)])[i]? = some e := fun i e he => by
    rw [List.getElem?_append_left (List.getElem?_eq_some_iff.mp he).1]; exact he
  have jl := (List.getElem?_eq_some_iff.mp hj).1
  refine ⟨⟨?_,fun i e k he hk => ?_⟩,⟨fun i e he hk => ?_,fun i k e he hk => ?_⟩,fun e he => ?_,fun t ht => ?_,?_,fun i e hi he => ?_⟩
  · rw [List.map_append,List.nodup_append]
    refine ⟨g.tree.nd,by simp,fun a ha b hb => ?_⟩
    have hb : b = s := by simpa using hb
    rw [hb]
    rintro rfl
    exact hn ha
  · rcases old i e he with z | ⟨z1,z2⟩
    · exact g.tree.up i e k z hk
    · subst z2
      cases hk
      omega
  · rcases old i e he with z | ⟨z1,z2⟩
    · exact g.grown.root i e z hk
    · subst z2
      cases hk
  · rcases old i e he with z | ⟨z1,z2⟩
    · obtain ⟨e',h1,h2⟩ := g.grown.step i k e z hk
      exact ⟨e',keep _ _ h1,h2⟩
    · subst z2
      cases hk
      exact ⟨e0,keep _ _ hj,hs⟩
  · rcases List.mem_append.mp he with z | z
    · exact g.inU e z
    · rw [List.mem_singleton.mp z]; exact hU
  · rw [List.map_append]
    exact List.mem_append_left _ (g.base t ht)
  · rw [List.length_append]
    exact Nat.le_trans g.le (Nat.le_add_right _ _)
  · rcases old i e he with z | ⟨z1,z2⟩
    · obtain ⟨h1,h2⟩ := g.seen i e hi z
      refine ⟨h1,fun x hx => ?_⟩
      rw [List.map_append]
      exact List.mem_append_left _ (h2 x hx)
    · have := g.le
      omega
theorem Going.first {bs U : List Spot} {stp : Spot → List (Spot × V)} {fin : Spot → Bool} (nd : bs.Nodup) (hU : ∀ s ∈ bs,s ∈ U) : Going bs U stp fin (bs.map fun s => (s,none,.non)) 0 := by
  have at' : ∀ (i : Nat) e,(bs.map fun s => ((s,none,.non) : En))[i]? = some e → ∃ s,bs[i]? = some s ∧ e = (s,none,.non) := fun i e he => by
    rw [List.getElem?_map] at he
    cases h : bs[i]? with
    | none => rw [h] at he; cases he
    | some s => rw [h] at he; cases he; exact ⟨s,rfl,rfl⟩
  have mp : (bs.map fun s => ((s,none,.non) : En)).map (·.1) = bs := by rw [List.map_map]; exact List.map_id bs
  refine ⟨⟨by rw [mp]; exact nd,fun i e j he hj => ?_⟩,⟨fun i e he _ => ?_,fun i j e he hj => ?_⟩,fun e he => ?_,fun s hs => by rw [mp]; exact hs,Nat.zero_le _,fun i e hi => absurd hi (Nat.not_lt_zero _)⟩
  · obtain ⟨s,_,rfl⟩ := at' i e he
    cases hj
  · obtain ⟨s,hs,rfl⟩ := at' i e he
    exact ⟨List.mem_of_getElem? hs,rfl⟩
  · obtain ⟨s,_,rfl⟩ := at' i e he
    cases hj
  · obtain ⟨s,hs,rfl⟩ := List.mem_map.mp he
    exact hU s hs
theorem Going.next {bs U : List Spot} {stp : Spot → List (Spot × V)} {fin : Spot → Bool} {es : List En} {n : Nat} (g : Going bs U stp fin es n) {e : En} (he : es[n]? = some e) (hf : fin e.1 = false) (hs : ∀ x ∈ stp e.1,x.1 ∈ es.map (·.1)) : Going bs U stp fin es (n + 1) := by
  refine ⟨g.tree,g.grown,g.inU,g.base,(List.getElem?_eq_some_iff.mp he).1,fun i e' hi he' => ?_⟩
  by_cases z : i = n
  · subst z
    rw [he] at he'
    cases he'
    exact ⟨hf,hs⟩
  · exact g.seen i e' (by omega) he'
def aside (u v : Nat × Nat) : Prop := (v.1 ≤ u.1 ∧ u.2 ≤ v.2 + 1) ∨ (v.1 ≤ u.1 + 1 ∧ u.2 ≤ v.2)
inductive Ch (far : Nat → Nat → Prop) (I J : Nat) : Nat × Nat → Nat × Nat → Prop
  | one {u : Nat × Nat} : far u.1 u.2 → u.1 ≤ I → u.2 ≤ J → Ch far I J u u
  | step {u v x : Nat × Nat} : Ch far I J u v → aside v x → far x.1 x.2 → x.1 ≤ I → x.2 ≤ J → Ch far I J u x
theorem Ch.wide {far : Nat → Nat → Prop} {I J I' J' : Nat} {u v : Nat × Nat} (c : Ch far I J u v) (hi : I ≤ I') (hj : J ≤ J') : Ch far I' J' u v := by
  induction c with
  | one h a b => exact .one h (by omega) (by omega)
  | step c s h a b ih => exact .step ih s h (by omega) (by omega)
theorem Ch.first {far : Nat → Nat → Prop} {I J : Nat} {u v : Nat × Nat} (c : Ch far I J u v) : far u.1 u.2 ∧ u.1 ≤ I ∧ u.2 ≤ J := by
  induction c with
  | one h a b => exact ⟨h,a,b⟩
  | step c s h a b ih => exact ih
theorem Ch.last {far : Nat → Nat → Prop} {I J : Nat} {u v : Nat × Nat} (c : Ch far I J u v) : far v.1 v.2 ∧ v.1 ≤ I ∧ v.2 ≤ J := by
  cases c with
  | one h a b => exact ⟨h,a,b⟩
  | step c s h a b => exact ⟨h,a,b⟩
theorem Ch.join {far : Nat → Nat → Prop} {I J : Nat} {u v x y : Nat × Nat} (c : Ch far I J u v) (s : aside v x) (d : Ch far I J x y) : Ch far I J u y := by
  induction d with
  | one h a b => exact .step c s h a b
  | step d s' h a b ih => exact .step ih s' h a b
theorem fence_ex {far : Nat → Nat → Prop} {S : Nat → Nat → Prop} (h0 : ¬ far 0 0 → S 0 0) (hs : ∀ i j,¬ far i j → (0 < i ∧ S (i - 1) j) ∨ (0 < j ∧ S i (j - 1)) ∨ (0 < i ∧ 0 < j ∧ S (i - 1) (j - 1)) → S i j) :
    ∀ (n i j : Nat),i + j = n → ¬ S i j → ∃ u v,Ch far i j u v ∧ (u.1 = 0 ∨ u.2 = j) ∧ (v.2 = 0 ∨ v.1 = i) := by
  intro n
  induction n using Nat.strongRecOn with
  | ind n ih =>
    intro i j hn hS
    by_cases hf : far i j
    · exact ⟨(i,j),(i,j),.one hf (Nat.le_refl _) (Nat.le_refl _),.inr rfl,.inr rfl⟩
    · have no : ¬ ((0 < i ∧ S (i - 1) j) ∨ (0 < j ∧ S i (j - 1)) ∨ (0 < i ∧ 0 < j ∧ S (i - 1) (j - 1))) := fun z => hS (hs i j hf z)
      rw [not_or,not_or] at no
      obtain ⟨n1,n2,n3⟩ := no
      rcases Nat.eq_zero_or_pos i with zi | zi
      · subst zi
        rcases Nat.eq_zero_or_pos j with zj | zj
        · subst zj
          exact absurd (h0 hf) hS
        · obtain ⟨u,v,c,b,e⟩ := ih (0 + (j - 1)) (by omega) 0 (j - 1) rfl fun z => n2 ⟨zj,z⟩
          have := c.first
          exact ⟨u,v,c.wide (Nat.le_refl _) (by omega),.inl (by omega),e⟩
      · rcases Nat.eq_zero_or_pos j with zj | zj
        · subst zj
          obtain ⟨u,v,c,b,e⟩ := ih (i - 1 + 0) (by omega) (i - 1) 0 rfl fun z => n1 ⟨zi,z⟩
          have := c.last
          exact ⟨u,v,c.wide (by omega) (Nat.le_refl _),by omega,.inl (by omega)⟩
        · obtain ⟨ua,va,ca,ba,ea⟩ := ih (i - 1 + j) (by omega) (i - 1) j rfl fun z => n1 ⟨zi,z⟩
          obtain ⟨ub,vb,cb,bb,eb⟩ := ih (i + (j - 1)) (by omega) i (j - 1) rfl fun z => n2 ⟨zj,z⟩
          obtain ⟨uc,vc,cc,bc,ec⟩ := ih (i - 1 + (j - 1)) (by omega) (i - 1) (j - 1) rfl fun z => n3 ⟨zi,zj,z⟩
          have la := ca.last
          have fb := cb.first
          have fc := cc.first
          have lc := cc.last
          have ca' := ca.wide (I' := i) (J' := j) (by omega) (by omega)
          have cb' := cb.wide (I' := i) (J' := j) (by omega) (by omega)
          have cc' := cc.wide (I' := i) (J' := j) (by omega) (by omega)
          by_cases a0 : va.2 = 0
          · exact ⟨ua,va,ca',ba,.inl a0⟩
          · by_cases b0 : ub.1 = 0
            · exact ⟨ub,vb,cb',.inl b0,eb⟩
            · by_cases both : va.2 = j ∧ ub.1 = i
              · by_cases c0 : uc.1 = 0
                · by_cases c1 : vc.2 = 0
                  · exact ⟨uc,vc,cc',.inl c0,.inl c1⟩
                  · exact ⟨uc,vb,cc'.join (.inr (by omega)) cb',.inl c0,eb⟩
                · have cj := ca'.join (x := uc) (.inl (by omega)) cc'
                  by_cases c1 : vc.2 = 0
                  · exact ⟨ua,vc,cj,ba,.inl c1⟩
                  · exact ⟨ua,vb,cj.join (.inr (by omega)) cb',ba,eb⟩
              · refine ⟨ua,vb,ca'.join (x := ub) ?_ cb',ba,eb⟩
                by_cases q : va.2 = j
                · exact .inl (by omega)
                · exact .inr (by omega)
end Sk
namespace Dr
open PySem PySem.Spec L2 Mth Sp1 Sp2 Sp3 Sp7
def Pot (H : Hp) (p : Addr) (k : Int) : Prop := ∃ a b c : Int,H p = some (.lst [.int a,.int b,.int c]) ∧ 0 ≤ b ∧ b ≤ k ∧ 0 ≤ c ∧ c < 2147483647
def But (p : Addr) (H H' : Hp) : Prop := ∀ b o,b ≠ p → H b = some o → H' b = some o
theorem But.refl {p : Addr} {H : Hp} : But p H H := fun _ _ _ e => e
theorem But.trans {p : Addr} {H H1 H2 : Hp} (a : But p H H1) (b : But p H1 H2) : But p H H2 := fun c o n e => b c o n (a c o n e)
theorem But.of {p : Addr} {H H' : Hp} (s : Same H H') : But p H H' := fun c o _ e => s c o e
theorem But.same {p : Addr} {H0 H H' : Hp} (b : But p H H') (s : Same H0 H) (h : H0 p = none) : Same H0 H' := fun c o e => b c o (ne_of_none e h) (s c o e)
theorem Pot.mono {H : Hp} {p : Addr} {k k' : Int} (h : Pot H p k) (hk : k ≤ k') : Pot H p k' := by
  obtain ⟨a,b,c,e,h0,h1,h2,h3⟩ := h
  exact ⟨a,b,c,e,h0,by omega,h2,h3⟩
theorem Pot.same {H H' : Hp} {p : Addr} {k : Int} (h : Pot H p k) (s : Same H H') : Pot H' p k := by
  obtain ⟨a,b,c,e,h0⟩ := h
  exact ⟨a,b,c,s _ _ e,h0⟩
theorem But.t {p : Addr} {H H' : Hp} {k : Int} (b : But p H H') (h : Pot H p k) : SameT H H' := fun c xs e => by
  obtain ⟨x,y,z,ep,_⟩ := h
  exact b c _ (ne_of e ep (by intro z; cases z)) e
theorem Pot.ne {H : Hp} {p l : Addr} {k : Int} (h : Pot H p k) (hl : H l = none) : l ≠ p := fun z => by
  obtain ⟨x,y,w,ep,_⟩ := h
  subst z
  rw [hl] at ep
  cases ep
theorem But.none {p l : Addr} {H H' : Hp} (b : But p H H') (n : l ≠ p) (h : H' l = none) : H l = none := by
  cases e : H l with
  | none => rfl
  | some o =>
    rw [b l o n e] at h
    cases h
def spCell (K : PySem.W.Frag) : Sp := fun vs H Q _ => ∃ (sa : Addr) (ss : List Int) (k : Int),vs = [.ref sa,.int k] ∧ SqL K H sa (ss.map V.int) ∧ 0 ≤ k ∧ ∀ c : Int,Q (.int c) H
def spBegun : Sp := fun vs H Q _ => ∃ c : Int,vs = [.int c] ∧ ∀ (p : Addr) (H' : Hp),Same H H' → H p = none → Pot H' p 0 → Q (.ref p) H'
def spTk : Sp := fun vs H Q _ => ∃ (p : Addr) (m k : Int),vs = [.ref p,.int m] ∧ Pot H p k ∧ k ≤ 1000000 ∧ (0 < m ∧ bits m ≤ 8000) ∧ ∀ (r : Int) (H' : Hp),0 ≤ r → r < m → But p H H' → Pot H' p (k + 1) → Q (.int r) H'
def spWd : Sp := fun vs H Q _ => ∃ (p : Addr) (m k : Int),vs = [.ref p,.int m] ∧ Pot H p k ∧ k ≤ 900000 ∧ (0 < m ∧ bits m ≤ 8000) ∧ ∀ (r : Int) (H' : Hp),0 ≤ r → r < m → But p H H' → Pot H' p (k + 4) → Q (.int r) H'
def spDLine : Sp := fun vs H Q _ => ∃ (p : Addr) (k : Int),vs = [.ref p] ∧ Pot H p k ∧ k ≤ 800000 ∧ ∀ (l : Addr) (qs : Crn) (H' : Hp),LineM H' l qs → 1 ≤ qs.length → qs.length ≤ 10 → H l = none → But p H H' → Pot H' p (k + 100) → Q (.ref l) H'
def spMoved : Sp := fun vs H Q _ => ∃ (p : Addr) (n k : Int),vs = [.ref p,.int n] ∧ Pot H p k ∧ k ≤ 900000 ∧ ∀ (r : Int) (H' : Hp),Sm r → But p H H' → Pot H' p (k + 1) → Q (.int r) H'
def spOther : Sp := fun vs H Q _ => ∃ (p l : Addr) (qs : Crn) (k : Int),vs = [.ref p,.ref l] ∧ Pot H p k ∧ k ≤ 700000 ∧ LineM H l qs ∧ (1 ≤ qs.length ∧ qs.length ≤ 10) ∧ ∀ (r : Addr) (rs : Crn) (H' : Hp),LineM H' r rs → 1 ≤ rs.length → rs.length ≤ 10 → H r = none → But p H H' → Q (.ref r) H'
def spLines (K : PySem.W.Frag) : Sp := fun vs H Q _ => ∃ (sa : Addr) (ss : List Int),vs = [.ref sa] ∧ SqL K H sa (ss.map V.int) ∧ ∀ (t l r : Addr) (qs rs : Crn) (H' : Hp),Same H H' → H' t = some (.tup [.ref l,.ref r]) → LineM H' l qs → (1 ≤ qs.length ∧ qs.length ≤ 10) → LineM H' r rs → (1 ≤ rs.length ∧ rs.length ≤ 10) → H l = none → H r = none → l ≠ r → Q (.ref t) H'
theorem _root_.Sp7.LineM.but {p l : Addr} {H H' : Hp} {qs : Crn} {k : Int} (L : LineM H l qs) (b : But p H H') (h : Pot H p k) (n : l ≠ p) : LineM H' l qs := ⟨b l _ n L.lst,fun q hq => ⟨b.t h _ _ (L.crn q hq).1,(L.crn q hq).2⟩⟩
end Dr
namespace Dr
open PySem PySem.Spec L2 Mth Sp1 Sp2 Sp3 Sp7
theorem ixN_of {n : Nat} {i : Int} (h0 : 0 ≤ i) (h1 : i < (n : Int)) : ixN n i = some i.toNat := by
  unfold ixN
  rw [if_pos h0,if_pos h1]
theorem menuI {K : PySem.W.Frag} {H : Hp} {l : Addr} {xs : List V} {i : Int} {Q : VK} (C : Int → Prop) (e : H l = some (.lst xs)) (h0 : 0 ≤ i) (h1 : i < (xs.length : Int)) (hC : ∀ v ∈ xs,∃ m,v = .int m ∧ C m) (h : ∀ m,C m → Q (.int m) H) : rIxL K (.ref l) (.int i) H Q :=
  menu e h0 h1 fun v hv => by
    obtain ⟨m,rfl,hc⟩ := hC v hv
    exact h m hc
theorem at_crn {qs : Crn} {k : Int} (h0 : 0 ≤ k) (h1 : k < (qs.length : Int)) : ∃ q,qs[k.toNat]? = some q ∧ atI (qs.map fun (q : Addr × Int × Int) => V.ref q.1) k = some (.ref q.1) := by
  have hk : k.toNat < qs.length := by omega
  refine ⟨qs[k.toNat],List.getElem?_eq_getElem hk,?_⟩
  have := atI_nat (xs := qs.map fun (q : Addr × Int × Int) => V.ref q.1) (j := k.toNat) (v := .ref qs[k.toNat].1) (by rw [List.getElem?_map,List.getElem?_eq_getElem hk]; rfl)
  rw [show ((k.toNat : Nat) : Int) = k by omega] at this
  exact this
def ifBody (s : Stmt) : Stmt := match s with
  | .If _ (b :: _) _ _ => b
  | _ => .Pass ⟨0,0,0,0⟩
def retExpr (s : Stmt) : Expr := match s with
  | .Return (some e) _ => e
  | .Assign _ e _ => e
  | .If e _ _ _ => e
  | _ => .Name "" ⟨0,0,0,0⟩
end Dr
namespace Dr
open PySem
def compScope (e : Expr) : Scope := match e with
  | .ListComp _ _ sc _ => sc
  | .Call _ [.ListComp _ _ sc _] _ _ => sc
  | _ => { kind := .function,names := [],isGenerator := false,isCoroutine := false }
end Dr
namespace PySem
namespace F
theorem lri_no_len : typeLookup (.type "list_reverseiterator") (Str.ofString "__len__") = pure none := by rw [typeLookup_type,builtinLookup_eq_fast]; kernel_rfl
theorem lri_hint : typeLookup (.type "list_reverseiterator") (Str.ofString "__length_hint__") = pure (some (.builtin "list_reverseiterator.__length_hint__")) := by rw [typeLookup_type,builtinLookup_eq_fast]; kernel_rfl
end F
section
variable {prog : Program} {w : World} {A : Around} {E : Value → Shared → Prop} {s : Shared}
theorem wpAny_hint_rev {it : Addr} {Q : Bool → Shared → Prop} (hT : s.TypeIs (.ref it) "list_reverseiterator") (h : Q false s) : wpAny (model prog w) A (Builtin.List.listLengthHint (.ref it)) Q E s := by
  unfold Builtin.List.listLengthHint
  refine wpAny_bind (wpAny_specialOf hT F.lri_no_len ?_)
  show wpAny _ A (specialOf (Value.ref it) (Str.ofString "__length_hint__") >>= _) _ _ _
  refine wpAny_bind (wpAny_specialOf hT F.lri_hint ?_)
  generalize hid : ("list_reverseiterator.__length_hint__" : String) = id0
  wp_delta
  rw [show splitId id0 = some ("list_reverseiterator","__length_hint__") from by subst hid; decide +kernel]
  subst hid
  refine wpAny_bind (wpAny_isInstance (T := "list_reverseiterator") (b := true) hT (by rw [isSubtype_type]; kernel_rfl) ?_)
  refine wpAny_ite_split (fun hab => absurd hab (by decide)) (fun _ => ?_)
  refine wpAny_ite_split (fun _ => ?_) (fun hab => absurd (by decide +kernel) hab)
  refine wpAny_ite_split (fun hab => absurd hab (by decide +kernel)) (fun _ => ?_)
  exact wpAny_pure h
theorem wpAny_extend_rev {R : Result → Shared → Prop} {it l : Addr} {items : Array Value} (hh : A.handled = none) (hit : s.heap.IsRevIter it l ((items.size : Int) - 1)) (hl : s.heap.IsList l items) (hne : l ≠ it) (hn : items.size ≤ sizeLine) (S : Addr) (res : Value) (c₀ : Nat) (hSi : S ≠ it) (hSl : S ≠ l)
    (hS : s.heap.get? S = some { cls := .type "list",data := .seq #[] c₀ })
    (hR : ∀ h' tk acc' c',(∀ b o,b ≠ S → b ≠ it → s.heap.get? b = some o → h'.get? b = some o) → h'.get? S = some { cls := .type "list",dict := none,data := .seq acc' c',slots := #[] } →
      ItemsOf (fun i v => items[items.size - 1 - i]? = some v) acc' items.size → R (.ok (.ret res)) { s with heap := h',toks := tk }) :
    wpAny (model prog w) A.in1 (Builtin.List.listExtendWith (.ref S) (.ref it) res)
      (fun fin s' => match fin with | .done f => R (.ok f) s' | .again c' => c'.quiet = true ∧ codeAny (model prog w) A c' R s') (fun e s' => R (.error e) s') s := by
  have W := (Walks.listRev (prog := prog) (w := w) (A := A.in1) hh it l hne items).toS
  have hSf : S ∉ [it,l] := fun hm => by
    simp only [List.mem_cons,List.not_mem_nil,or_false] at hm
    rcases hm with e | e
    · exact hSi e
    · exact hSl e
  unfold Builtin.List.listExtendWith
  refine wpAny_bind (wpAny_typeOf hit.typeIs ?_)
  have h1 : Builtin.List.listSameRef (.ref S) (.ref it) = false := by simp [Builtin.List.listSameRef,hSi]
  have h2 : (Value.type "list_reverseiterator" == Value.type "list") = false := by decide
  have h3 : (Value.type "list_reverseiterator" == Value.type "tuple") = false := by decide
  simp only [h1,h2,h3,Bool.or_false,Bool.false_eq_true,if_false]
  refine wpAny_bind (wpAny_pyIter_revIter hit ?_)
  refine wpAny_bind (wpAny_holding (wpAny_hint_rev hit.typeIs ?_))
  refine wpAny_ite_split (fun hab => absurd hab (by decide +kernel)) (fun _ => ?_)
  refine wpAny_pure ⟨plainId_quiet F.plain_extend_loop _,codeAny_extend_loopS W hn S hSf res items.size 0 s #[] c₀ rfl (Nat.zero_le _) ⟨Nat.zero_le _,by simpa using hit,hl⟩ hS (ItemsOf.nil _) fun s' acc' c' hm hS' hacc => ?_⟩
  rw [Moved.eq_with hm]
  refine hR s'.heap s'.toks acc' c' (fun b o hb hi e => hm.heap b o (fun hmem => ?_) e) hS' hacc
  rcases List.mem_cons.mp hmem with e' | hmem
  · exact hb e'
  · exact hi (List.mem_singleton.mp hmem)
theorem call_list_rev {Q : Value → Shared → Prop} {it l : Addr} {items : Array Value} (hh : A.handled = none) (hit : s.heap.IsRevIter it l ((items.size : Int) - 1)) (hl : s.heap.IsList l items) (hne : l ≠ it) (hn : items.size ≤ sizeLine)
    (hQ : ∀ h' tk acc' c',(∀ b o,b ≠ it → s.heap.get? b = some o → h'.get? b = some o) →
      h'.get? s.heap.objs.size = some { cls := .type "list",dict := none,data := .seq acc' c',slots := #[] } → ItemsOf (fun i v => items[items.size - 1 - i]? = some v) acc' items.size → Q (.ref s.heap.objs.size) { s with heap := h',toks := tk }) :
    wpAny (model prog w) A (call (.type "list") [.ref it]) Q E s := by
  obtain ⟨oi,hoi,_⟩ := id hit
  obtain ⟨ol,hol,_⟩ := id hl
  have hi := Heap.lt_size hoi
  have hll := Heap.lt_size hol
  refine callType_codes (Q₁ := fun obj s₁ => obj = .ref s.heap.objs.size ∧ s₁ = { s with heap := s.heap.push { cls := .type "list",data := .seq #[] } }) F.called_list (F.typeCall_list_1 _) F.entry_list_init
    (code_list_new _ ⟨rfl,rfl⟩) fun obj s₁ h₁ => ?_
  obtain ⟨rfl,rfl⟩ := h₁
  have hS : (s.heap.push { cls := .type "list",data := .seq #[] }).get? s.heap.objs.size = some { cls := .type "list",data := .seq #[] } := Heap.get?_push_size _ rfl
  refine ⟨⟨_,hS,rfl⟩,F.args_list_init_2 _ _,?_⟩
  show wpAny _ _ (do let old ← Builtin.List.listItems (.ref s.heap.objs.size); Builtin.List.listUpdate (.ref s.heap.objs.size) (fun _ => #[]); letGo old.toList.reverse; Builtin.List.listExtendWith (.ref s.heap.objs.size) (.ref it) .none) _ _ _
  refine wpAny_bind ?_
  unfold Builtin.List.listItems
  refine wpAny_bind (wpAny_seqItems hS rfl (wpAny_pure ?_))
  show wpAny _ _ (updateSeq s.heap.objs.size (fun _ => #[]) >>= fun _ => letGo (#[] : Array Value).toList.reverse >>= fun _ => Builtin.List.listExtendWith (.ref s.heap.objs.size) (.ref it) .none) _ _ _
  refine wpAny_bind (wpAny_updateSeq hS rfl ?_)
  have hS₂ := Heap.get?_update_self (Obj.mapSeq (fun _ => (#[] : Array Value))) hS rfl
  have oth : ∀ b o,b ≠ s.heap.objs.size → s.heap.get? b = some o → ((s.heap.push { cls := .type "list",data := .seq #[] }).update s.heap.objs.size (Obj.mapSeq (fun _ => (#[] : Array Value)))).get? b = some o :=
    fun b o hb e => (Heap.get?_update_other _ _ (Ne.symm hb)).trans (Heap.get?_push_of_some _ e)
  refine wpAny_bind (wpAny_letGo ?_)
  refine wpAny_extend_rev (A := A.in1) hh (hit.at fun o e => oth it o (Nat.ne_of_lt hi) e) (hl.at fun o e => oth l o (Nat.ne_of_lt hll) e) hne hn _ .none _ (Nat.ne_of_gt hi) (Nat.ne_of_gt hll) hS₂ fun h' tk acc' c' hk hS' hacc => ?_
  exact ⟨rfl,hQ h' tk acc' c' (fun b o hb e => hk b o (Nat.ne_of_lt (Heap.lt_size e)) hb (oth b o (Nat.ne_of_lt (Heap.lt_size e)) e)) hS' hacc⟩
end
end PySem
namespace L2
open PySem PySem.Spec PyProof.Rows
section
variable {X : Cx} {e : Expr} {te : TE} {p1 p2 q1 q2 : Pos}
theorem bt_reversed : bootBuiltins "reversed" = some (.type "reversed") := by decide +kernel
def tListRev (K : PySem.W.Frag) (te : TE) : TE := fun σ H Q => te σ H fun x H1 => ∃ a xs,[x] = [.ref a] ∧ SqL K H1 a xs ∧ ∀ l H2,Same H1 H2 → H2 l = some (.lst xs.reverse) → H1 l = none → Q (.ref l) H2
theorem pe_list_rev (hcalm : X.calm = true) (gl : Gl X "list") (ml : X.mg "list" = none) (gr : Gl X "reversed") (mr : X.mg "reversed" = none) (he : PE X e te)
    (h1 : starEach [.Call (.Name "reversed" p1) [e] [] q1] X.env = [(false,eval (.Call (.Name "reversed" p1) [e] [] q1) X.env)] := by rfl) (h2 : starEach [e] X.env = [(false,eval e X.env)] := by rfl) :
    PE X (.Call (.Name "list" p2) [.Call (.Name "reversed" p1) [e] [] q1] [] q2) (tListRev X.K te) := by
  intro pins s σ H Q I h
  have h' : (tCons te tNil) σ H (fun vs H1 => ∃ a xs,vs = [.ref a] ∧ SqL X.K H1 a xs ∧ ∀ l H2,Same H1 H2 → H2 l = some (.lst xs.reverse) → H1 l = none → Q (.ref l) H2) := h
  have inner : wpAny (model X.prog X.w) X.A (eval (.Call (.Name "reversed" p1) [e] [] q1) X.env) (fun u s1 => ∃ (it a : Addr) (xs : List V) (its : List Value) (H1 : Hp),u = .ref it ∧ Inv X pins σ H1 s1 ∧ Vals xs its ∧ s1.heap.IsList a its.toArray ∧ xs.length ≤ sizeLine ∧ a ≠ it ∧ FpOk X pins H1 it ∧ s1.heap.IsRevIter it a ((its.toArray.size : Int) - 1) ∧
      ∀ l H2,Same H1 H2 → H2 l = some (.lst xs.reverse) → H1 l = none → Q (.ref l) H2) X.xe s := by
    refine wpAny_Call_Name_kw (ld_blt I gr mr bt_reversed (PyProof.Rows.callWith_type1 (thn ((pa_cons he pa_nil h2) q1 pins s σ H (fun vs H1 => ∃ a xs,vs = [.ref a] ∧ SqL X.K H1 a xs ∧ ∀ l H2,Same H1 H2 → H2 l = some (.lst xs.reverse) → H1 l = none → Q (.ref l) H2) I ?_) fun us s1 ⟨vs,H1,I1,r1,q⟩ => ?_) h2 rfl))
    · exact h'
    · obtain ⟨a,xs,rfl,hx,k⟩ := q
      obtain ⟨u,rfl,ru⟩ := vals1 r1
      cases ru
      obtain ⟨its,rv,pl,hz⟩ := I1.list hx
      refine call_reversed_list pl.isList ?_
      have al : a < s1.heap.objs.size := by obtain ⟨_,e,_⟩ := pl.isList; exact Heap.lt_size e
      have kp : ∀ b o,s1.heap.get? b = some o → (s1.heap.push (revObj a ((its.toArray.size : Int) - 1))).get? b = some o := fun b o e => Heap.get?_push_of_some _ e
      exact ⟨_,a,xs,its,H1,rfl,I1.kept (t' := s1.toks) kp,rv,pl.isList.at fun o e => kp _ o e,hz,Nat.ne_of_lt al,I1.fpOk (Nat.le_refl _) (I1.hok.fresh (Nat.le_refl _)),⟨_,Heap.get?_push_size _ rfl,rfl,rfl⟩,k⟩
  refine wpAny_Call_Name_kw (ld_blt I gl ml bt_list (PyProof.Rows.callWith_type1 ?_ h1 rfl))
  rw [h1]
  refine Calls.spliced_cons (thn inner fun u s1 ⟨it,a,xs,its,H1,eu,I1,rv,hl,hz,hne,fp,hrev,k⟩ => ?_)
  subst eu
  refine Calls.spliced_nil ?_
  have hlen := rv.length
  refine call_list_rev (I.ok.hd hcalm) hrev hl hne (by rw [List.size_toArray]; omega) fun h' tk acc' c' hk hS hacc => ?_
  obtain ⟨f0,f1,f2,f3,f4,f5⟩ := fp
  have hfr : H1 s1.heap.objs.size = none := I1.hok.fresh (Nat.le_refl _)
  have J1 : Inv X pins σ H1 { s1 with heap := h',toks := tk } := I1.turned (fun b o hb e => hk b o hb e) f0 f1 f3 f4 f5
  have hv : Vals xs.reverse acc'.toList := by
    have e : acc' = its.reverse.toArray := by
      obtain ⟨h3,h4⟩ := hacc
      refine Array.ext ?_ fun j hj1 hj2 => ?_
      · rw [h3]; simp
      · have z := h4 j _ (Array.getElem?_eq_getElem hj1)
        rw [List.size_toArray] at z
        have hj : j < its.length := by simpa using hj2
        have z' : its[its.length - 1 - j]? = some acc'[j] := by simpa using z
        have y : its.reverse[j]? = its[its.length - 1 - j]? := by rw [List.getElem?_reverse hj]
        rw [z'] at y
        have y2 : its.reverse.toArray[j]? = some acc'[j] := by simpa using y
        rw [Array.getElem?_eq_getElem hj2] at y2
        exact (Option.some.inj y2).symm
    rw [e]
    exact rv.reverse
  have hn : X.s₀.heap.get? s1.heap.objs.size = none := by
    cases e : X.s₀.heap.get? s1.heap.objs.size with
    | none => rfl
    | some o => exact absurd (Nat.lt_of_lt_of_le (Heap.lt_size e) I1.sz) (Nat.lt_irrefl _)
  obtain ⟨g0,g1,g2,g3,g4,g5⟩ := I1.fpOk (H' := H1) (Nat.le_refl _) hfr
  have J2 := J1.track (o := .lst xs.reverse) hfr hn g1 g4 g5 ⟨by rw [List.length_reverse]; exact hz,acc'.toList,c',hv,by simpa using hS⟩
  exact ⟨.ref s1.heap.objs.size,_,J2,rfl,k _ _ (Same.new hfr) upd_same hfr⟩
end
section
variable {X : Cx}
end
end L2
namespace Wk
open PySem PySem.Spec L2 Mth Sp1 Sp2 Sp3 Sp7 Dr
structure Pr where
  p : Addr
  x : Addr
  y : Addr
  a : Int
  b : Int
  c : Int
  d : Int
structure PrAt (H : Hp) (q : Pr) : Prop where
  p_ : H q.p = some (.tup [.ref q.x,.ref q.y])
  x_ : H q.x = some (.tup [.int q.a,.int q.b])
  y_ : H q.y = some (.tup [.int q.c,.int q.d])
  lx : Low q.a q.b
  ly : Low q.c q.d
  nx : 0 ≤ q.a
  ny : 0 ≤ q.c
  ba : bits q.a ≤ 200
  bb : bits q.b ≤ 60
  bc : bits q.c ≤ 200
  bd : bits q.d ≤ 60
theorem PrAt.t {H H' : Hp} {q : Pr} (h : PrAt H q) (s : SameT H H') : PrAt H' q := ⟨s _ _ h.p_,s _ _ h.x_,s _ _ h.y_,h.lx,h.ly,h.nx,h.ny,h.ba,h.bb,h.bc,h.bd⟩
theorem PrAt.sx {H : Hp} {q : Pr} (h : PrAt H q) : Small q.a q.b := ⟨h.lx.pos,bits_le h.ba (by decide),bits_le h.bb (by decide)⟩
theorem PrAt.sy {H : Hp} {q : Pr} (h : PrAt H q) : Small q.c q.d := ⟨h.ly.pos,bits_le h.bc (by decide),bits_le h.bd (by decide)⟩
def prs (ps : List Pr) : List V := ps.map fun q => V.ref q.p
structure PairsAt (H : Hp) (l : Addr) (ps : List Pr) : Prop where
  lst : H l = some (.lst (prs ps))
  pr : ∀ q ∈ ps,PrAt H q
theorem PairsAt.mono {H H' : Hp} {l : Addr} {ps : List Pr} (h : PairsAt H l ps) (s : Same H H') : PairsAt H' l ps := ⟨s _ _ h.lst,fun q hq => (h.pr q hq).t s.t⟩
theorem prs_len (ps : List Pr) : (prs ps).length = ps.length := List.length_map _
theorem prs_get {ps : List Pr} {i : Nat} {v : V} (h : (prs ps)[i]? = some v) : ∃ q,ps[i]? = some q ∧ v = .ref q.p := by
  unfold prs at h
  rw [List.getElem?_map] at h
  obtain ⟨q,hq,rfl⟩ := Option.map_eq_some_iff.mp h
  exact ⟨q,hq,rfl⟩
def wHops : Str := "hops"
def wFree : Str := "free"
def wPart : Str := "part"
def goB (way : Str) (a b c d : Int) : Bool :=
  if way = wHops then (decide (b = 1) && (decide (d = 1) && (decide (c - a = 0) || decide (c - a = 1))))
  else if way = wFree then shareB a b c d
  else (!decide (c * b < a * d)) && shareB a b c d
def stepB (way : Str) (u v : Pr) : Bool := goB way u.a u.b v.a v.b && goB way u.c u.d v.c v.d
def stepsB (way : Str) : List Pr → Bool
  | u :: v :: r => stepB way u v && stepsB way (v :: r)
  | _ => true
def isP (a b n : Int) : Bool := decide (a = n) && decide (b = 1)
def endsB (n m : Int) (way : Str) (f l : Pr) : Bool :=
  if isP f.a f.b 0 && isP l.a l.b n then (if way = wPart then true else isP f.c f.d 0 && isP l.c l.d m) else false
def inB (n m : Int) (q : Pr) : Bool := (decide (q.a ≤ n * q.b)) && (decide (q.c ≤ m * q.d))
def walkB (n m : Int) (way : Str) (ps : List Pr) : Bool :=
  match ps with
  | [] => false
  | f :: r => (f :: r).all (inB n m) && (endsB n m way f ((f :: r).getLast (by simp)) && stepsB way (f :: r))
theorem walkB_cons (n m : Int) (way : Str) (f : Pr) (r : List Pr) : walkB n m way (f :: r) = ((f :: r).all (inB n m) && (endsB n m way f ((f :: r).getLast (by simp)) && stepsB way (f :: r))) := rfl
def spGo2 (g : Int → Int → Int → Int → Bool) : Sp := fun vs H Q _ => ∃ (p q : Addr) (a b c d : Int),vs = [.ref p,.ref q] ∧ H p = some (.tup [.int a,.int b]) ∧ H q = some (.tup [.int c,.int d]) ∧ Small a b ∧ Small c d ∧ ∀ H',Same H H' → Q (.bl (g a b c d)) H'
def spMay : Sp := fun vs H Q _ => ∃ (p q : Addr) (a b c d : Int) (w : Str),vs = [.ref p,.ref q,.str w] ∧ H p = some (.tup [.int a,.int b]) ∧ H q = some (.tup [.int c,.int d]) ∧ Small a b ∧ Small c d ∧ ∀ H',Same H H' → Q (.bl (goB w a b c d)) H'
end Wk
namespace L2
open PySem PySem.Spec PyProof.Rows
theorem pg_tupK {X : Cx} {K : PySem.W.Frag} {pos : Pos} {es : List Expr} {k : Nat} {t : TGs} {n : Nat} (hK : X.K = K) (hc : X.calm = true) (h : PGs X es t)
    (hn : (assignEach es X.env).length = n := by rfl) (hst : (assignEach es X.env).findIdx? (·.1) = none := by rfl) : PG X (.Tuple es k pos) (gTup K n t) := by
  subst hK
  exact pg_tup hc h hn hst
end L2
namespace Fnc
open PySem PySem.Spec L2 Mth Sp1 Sp2 Sp3 Sp7 Dr Wk
def ltB (a b c d : Int) : Bool := decide (a * d < c * b)
def backB (u v : Pr) : Bool := !ltB u.a u.b v.a v.b && !ltB v.c v.d u.c u.d
def keepX (u v : Pr) : Bool := decide ([u.a,u.b] = [v.a,v.b]) && (decide (u.b = 1) && shareB u.c u.d v.c v.d)
def keepY (u v : Pr) : Bool := decide ([u.c,u.d] = [v.c,v.d]) && (decide (u.d = 1) && shareB u.a u.b v.a v.b)
def slideB (u v : Pr) : Bool := keepX u v || keepY u v
def asideB (u v : Pr) : Bool := (decide (v.a - u.a ≤ 0) && decide (u.c - v.c ≤ 1)) || (decide (v.a - u.a ≤ 1) && decide (u.c - v.c ≤ 0))
def mayB (way : Str) (u v : Pr) : Bool := if way = wHops then asideB u v else if way = wFree then slideB u v else (backB u v || slideB u v)
def fstepsB (way : Str) : List Pr → Bool
  | u :: v :: r => mayB way u v && fstepsB way (v :: r)
  | _ => true
def fendsB (n m : Int) (way : Str) (f l : Pr) : Bool := if way = wPart then (isP f.c f.d m && isP l.c l.d 0) else ((isP f.c f.d m || isP f.a f.b 0) && (isP l.c l.d 0 || isP l.a l.b n))
def wholeB (q : Pr) : Bool := decide (q.b = 1) && decide (q.d = 1)
def fenceB (n m : Int) (way : Str) (ps : List Pr) : Bool :=
  match ps with
  | [] => false
  | f :: r => (f :: r).all (inB n m) && ((if way = wHops then (f :: r).all wholeB else true) && (fendsB n m way f ((f :: r).getLast (by simp)) && fstepsB way (f :: r)))
theorem fenceB_cons (n m : Int) (way : Str) (f : Pr) (r : List Pr) : fenceB n m way (f :: r) = ((f :: r).all (inB n m) && ((if way = wHops then (f :: r).all wholeB else true) && (fendsB n m way f ((f :: r).getLast (by simp)) && fstepsB way (f :: r)))) := rfl
theorem fsteps_iff {w : Str} : ∀ {ps : List Pr},fstepsB w ps = true ↔ ∀ (j : Nat) u v,ps[j]? = some u → ps[j + 1]? = some v → mayB w u v = true
  | [] => by simp [fstepsB]
  | [u] => by simp [fstepsB]
  | u :: v :: r => by
    unfold fstepsB
    rw [Bool.and_eq_true,fsteps_iff (ps := v :: r)]
    constructor
    · rintro ⟨h1,h2⟩ j x y ex ey
      cases j with
      | zero => cases ex; cases ey; exact h1
      | succ j => exact h2 j x y (by simpa using ex) (by simpa using ey)
    · intro h
      exact ⟨h 0 u v rfl rfl,fun j x y ex ey => h (j + 1) x y (by simpa using ex) (by simpa using ey)⟩
def spTwo (g : Pr → Pr → Bool) : Sp := fun vs H Q _ => ∃ u v : Pr,vs = [.ref u.p,.ref v.p] ∧ PrAt H u ∧ PrAt H v ∧ ∀ H',Same H H' → Q (.bl (g u v)) H'
theorem di (i j : Int) : decide (V.int i = V.int j) = decide (i = j) := by
  rw [Bool.eq_iff_iff]
  simp
theorem ds {u v : Str} {b : Bool} (h : decide (V.str u = V.str v) = b) : decide (u = v) = b := by
  rw [← h,Bool.eq_iff_iff]
  simp
theorem ltB_bits {H : Hp} {u v : Pr} (pu : PrAt H u) (pv : PrAt H v) : (bits u.a ≤ 2000 ∧ bits u.b ≤ 2000 ∧ bits v.a ≤ 2000 ∧ bits v.b ≤ 2000) ∧ (bits v.c ≤ 2000 ∧ bits v.d ≤ 2000 ∧ bits u.c ≤ 2000 ∧ bits u.d ≤ 2000) :=
  ⟨⟨bits_le pu.ba (by decide),bits_le pu.bb (by decide),bits_le pv.ba (by decide),bits_le pv.bb (by decide)⟩,⟨bits_le pv.bc (by decide),bits_le pv.bd (by decide),bits_le pu.bc (by decide),bits_le pu.bd (by decide)⟩⟩
theorem lt_self {a b : Int} : ltB a b a b = false := by
  unfold ltB
  exact decide_eq_false (by omega)
theorem back_or (u v : Pr) : (backB u v || slideB u v) = (backB u v || ((keepX u v && ltB v.c v.d u.c u.d) || (keepY u v && ltB u.a u.b v.a v.b))) := by
  cases hb : backB u v with
  | true => rfl
  | false =>
    rw [Bool.false_or,Bool.false_or]
    unfold slideB
    have e1 : keepX u v = true → ltB v.c v.d u.c u.d = true := fun h => by
      unfold keepX at h
      rw [Bool.and_eq_true] at h
      have e := of_decide_eq_true h.1
      simp only [List.cons.injEq,and_true] at e
      unfold backB at hb
      rw [← e.1,← e.2,lt_self] at hb
      simpa using hb
    have e2 : keepY u v = true → ltB u.a u.b v.a v.b = true := fun h => by
      unfold keepY at h
      rw [Bool.and_eq_true] at h
      have e := of_decide_eq_true h.1
      simp only [List.cons.injEq,and_true] at e
      unfold backB at hb
      rw [← e.1,← e.2,lt_self] at hb
      simpa using hb
    cases h1 : keepX u v with
    | true => rw [e1 h1]; rfl
    | false =>
      cases h2 : keepY u v with
      | true => rw [e2 h2]; rfl
      | false => rfl
end Fnc
namespace Fnc
open PySem PySem.Spec L2 Mth Sp1 Sp2 Sp3 Sp7 Dr Wk
def lstB (wy : Str) (u v : Pr) : Bool := if wy = wHops then ((wholeB u && wholeB v) && asideB u v) else mayB wy u v
def frB (wy : Str) : Bool := decide (wy = wFree)
def lX (wy : Str) (u v : Pr) : Bool := keepX u v && (frB wy || ltB v.c v.d u.c u.d)
def lY (wy : Str) (u v : Pr) : Bool := keepY u v && (frB wy || ltB u.a u.b v.a v.b)
theorem may_on {wy : Str} {u v : Pr} (h : ¬ wy = wHops) (hf : ¬ wy = wFree) : mayB wy u v = (backB u v || (lX wy u v || lY wy u v)) := by
  unfold mayB lX lY frB
  rw [if_neg h,if_neg hf,decide_eq_false hf,back_or]
  simp
theorem may_free {wy : Str} {u v : Pr} (h : ¬ wy = wHops) (hf : wy = wFree) : mayB wy u v = (lX wy u v || lY wy u v) := by
  unfold mayB lX lY frB slideB
  rw [if_neg h,if_pos hf,decide_eq_true hf]
  simp
def spLStp : Sp := fun vs H Q _ => ∃ (u v : Pr) (wy : Str),vs = [.ref u.p,.ref v.p,.str wy] ∧ PrAt H u ∧ PrAt H v ∧ ∀ H',Same H H' → Q (.bl (lstB wy u v)) H'
theorem whole_all {wy : Str} {f : Pr} {r : List Pr} (hw : wy = wHops) : ((f :: r).all wholeB && fstepsB wy (f :: r)) = true ↔ (wholeB f = true ∧ ∀ (j : Nat) u v,(f :: r)[j]? = some u → (f :: r)[j + 1]? = some v → lstB wy u v = true) := by
  rw [Bool.and_eq_true,fsteps_iff,List.all_eq_true]
  have e : ∀ u v,mayB wy u v = asideB u v := fun u v => by unfold mayB; rw [if_pos hw]
  have e2 : ∀ u v,lstB wy u v = ((wholeB u && wholeB v) && asideB u v) := fun u v => by unfold lstB; rw [if_pos hw]
  constructor
  · rintro ⟨h1,h2⟩
    refine ⟨h1 f (by simp),fun j u v hu hv => ?_⟩
    have h3 := h2 j u v hu hv
    rw [e] at h3
    rw [e2,h1 u (List.mem_of_getElem? hu),h1 v (List.mem_of_getElem? hv),h3]
    rfl
  · rintro ⟨h1,h2⟩
    have h3 : ∀ (j : Nat) u,(f :: r)[j]? = some u → wholeB u = true := fun j => by
      induction j with
      | zero => intro u hu; cases hu; exact h1
      | succ j ih =>
        intro v hv
        have hj := (List.getElem?_eq_some_iff.mp hv).1
        have z := h2 j _ v (List.getElem?_eq_getElem (by omega)) hv
        rw [e2,Bool.and_eq_true,Bool.and_eq_true] at z
        exact z.1.2
    refine ⟨fun x hx => ?_,fun j u v hu hv => ?_⟩
    · obtain ⟨j,hj,ej⟩ := List.getElem_of_mem hx
      exact h3 j x (by rw [List.getElem?_eq_getElem hj,ej])
    · have z := h2 j u v hu hv
      rw [e2,Bool.and_eq_true] at z
      rw [e]
      exact z.2
end Fnc
namespace Fnc
open PySem PySem.Spec L2 Mth Sp1 Sp2 Sp3 Sp7 Dr Wk
def lallB (wy : Str) : List Pr → Bool
  | u :: v :: r => lstB wy u v && lallB wy (v :: r)
  | _ => true
theorem lall_iff {w : Str} : ∀ {ps : List Pr},lallB w ps = true ↔ ∀ (j : Nat) u v,ps[j]? = some u → ps[j + 1]? = some v → lstB w u v = true
  | [] => by simp [lallB]
  | [u] => by simp [lallB]
  | u :: v :: r => by
    unfold lallB
    rw [Bool.and_eq_true,lall_iff (ps := v :: r)]
    constructor
    · rintro ⟨h1,h2⟩ j x y ex ey
      cases j with
      | zero => cases ex; cases ey; exact h1
      | succ j => exact h2 j x y (by simpa using ex) (by simpa using ey)
    · intro h
      exact ⟨h 0 u v rfl rfl,fun j x y ex ey => h (j + 1) x y (by simpa using ex) (by simpa using ey)⟩
def ptB (wy : Str) : Bool := decide (wy = wPart)
def hfB (wy : Str) (f : Pr) : Bool := if wy = wHops then wholeB f else true
def e1B (m : Int) (wy : Str) (f : Pr) : Bool := isP f.c f.d m || (!ptB wy && isP f.a f.b 0)
def e2B (n : Int) (wy : Str) (z : Pr) : Bool := isP z.c z.d 0 || (!ptB wy && isP z.a z.b n)
theorem fends_eq (n m : Int) (wy : Str) (f z : Pr) : fendsB n m wy f z = (e1B m wy f && e2B n wy z) := by
  unfold fendsB e1B e2B ptB
  by_cases h : wy = wPart
  · rw [if_pos h,decide_eq_true h]
    simp
  · rw [if_neg h,decide_eq_false h]
    simp
theorem law_fence (wy : Str) (f : Pr) (r : List Pr) : ((if wy = wHops then (f :: r).all wholeB else true) && fstepsB wy (f :: r)) = (hfB wy f && lallB wy (f :: r)) := by
  unfold hfB
  by_cases h : wy = wHops
  · rw [if_pos h,if_pos h,Bool.eq_iff_iff,whole_all h,Bool.and_eq_true,lall_iff]
  · rw [if_neg h,if_neg h,Bool.eq_iff_iff,Bool.true_and,Bool.true_and,fsteps_iff,lall_iff]
    have e : ∀ u v,lstB wy u v = mayB wy u v := fun u v => by unfold lstB; rw [if_neg h]
    constructor
    · intro g j u v hu hv
      rw [e]
      exact g j u v hu hv
    · intro g j u v hu hv
      rw [← e]
      exact g j u v hu hv
theorem fenceB_law (n m : Int) (wy : Str) (f : Pr) (r : List Pr) : fenceB n m wy (f :: r) = ((f :: r).all (inB n m) && (e1B m wy f && (e2B n wy ((f :: r).getLast (by simp)) && (hfB wy f && lallB wy (f :: r))))) := by
  rw [fenceB_cons,fends_eq,← law_fence]
  generalize (f :: r).all (inB n m) = a
  generalize e1B m wy f = b
  generalize e2B n wy ((f :: r).getLast (by simp)) = c
  generalize (if wy = wHops then (f :: r).all wholeB else true) = d
  generalize fstepsB wy (f :: r) = e
  cases a <;> cases b <;> cases c <;> cases d <;> cases e <;> rfl
def spLFence : Sp := fun vs H Q _ => ∃ (l1 l2 l : Addr) (xs1 xs2 : List V) (ps : List Pr) (wy : Str),vs = [.ref l1,.ref l2,.ref l,.str wy] ∧ (H l1 = some (.lst xs1) ∧ xs1.length ≤ 100) ∧ (H l2 = some (.lst xs2) ∧ xs2.length ≤ 100) ∧ PairsAt H l ps ∧ ps.length < 900 ∧ ∀ H',Same H H' → Q (.bl (fenceB ((xs1.length : Int) - 1) ((xs2.length : Int) - 1) wy ps)) H'
end Fnc
namespace Sk
open PySem PySem.Spec L2 Sp24 Wk
def ck (i j : Int) : Spot := [.inl i,.inl j]
theorem ck_inj {i j x y : Int} (h : ck i j = ck x y) : i = x ∧ j = y := by
  unfold ck at h
  simp only [List.cons.injEq,Sum.inl.injEq,and_true] at h
  exact h
def rowL (F : Int → Int → Bool) (i k : Nat) : List (Int × Int) := ((List.range k).filter fun (j : Nat) => F (i : Int) (j : Int)).map fun (j : Nat) => ((i : Int),(j : Int))
def farP (F : Int → Int → Bool) (n i : Nat) : List (Int × Int) := (List.range i).flatMap fun i' => rowL F i' n
def farL (m n : Nat) (F : Int → Int → Bool) : List (Int × Int) := farP F (n + 1) (m + 1)
theorem mem_rowL {F : Int → Int → Bool} {i k : Nat} {p : Int × Int} : p ∈ rowL F i k ↔ p.1 = i ∧ 0 ≤ p.2 ∧ p.2 < k ∧ F p.1 p.2 = true := by
  unfold rowL
  simp only [List.mem_map,List.mem_filter,List.mem_range]
  constructor
  · rintro ⟨j,⟨h1,h2⟩,rfl⟩
    exact ⟨rfl,by simp,by simpa using h1,h2⟩
  · rintro ⟨h1,h2,h3,h4⟩
    obtain ⟨x,y⟩ := p
    dsimp only at h1 h2 h3 h4
    subst h1
    refine ⟨y.toNat,⟨by omega,?_⟩,?_⟩
    · rw [show ((y.toNat : Nat) : Int) = y by omega]; exact h4
    · rw [show ((y.toNat : Nat) : Int) = y by omega]
theorem mem_farP {F : Int → Int → Bool} {n i : Nat} {p : Int × Int} : p ∈ farP F n i ↔ 0 ≤ p.1 ∧ p.1 < i ∧ 0 ≤ p.2 ∧ p.2 < n ∧ F p.1 p.2 = true := by
  unfold farP
  simp only [List.mem_flatMap,List.mem_range,mem_rowL]
  constructor
  · rintro ⟨i',h1,h2,h3,h4,h5⟩
    exact ⟨by omega,by omega,h3,h4,h5⟩
  · rintro ⟨h1,h2,h3,h4,h5⟩
    exact ⟨p.1.toNat,by omega,by omega,h3,h4,h5⟩
theorem mem_farL {m n : Nat} {F : Int → Int → Bool} {x y : Int} : (x,y) ∈ farL m n F ↔ 0 ≤ x ∧ x ≤ m ∧ 0 ≤ y ∧ y ≤ n ∧ F x y = true := by
  unfold farL
  rw [mem_farP]
  constructor
  · rintro ⟨h1,h2,h3,h4,h5⟩
    exact ⟨h1,by simp at h2; omega,h3,by simp at h4; omega,h5⟩
  · rintro ⟨h1,h2,h3,h4,h5⟩
    exact ⟨h1,by simp; omega,h3,by simp; omega,h5⟩
theorem rowL_succ {F : Int → Int → Bool} {i k : Nat} : rowL F i (k + 1) = rowL F i k ++ (if F i k = true then [((i : Int),(k : Int))] else []) := by
  unfold rowL
  rw [List.range_succ,List.filter_append,List.map_append]
  congr 1
  by_cases h : F i k = true
  · simp [h]
  · simp [h]
theorem farP_succ {F : Int → Int → Bool} {n i : Nat} : farP F n (i + 1) = farP F n i ++ rowL F i n := by
  unfold farP
  rw [List.range_succ,List.flatMap_append]
  simp
theorem rowL_len {F : Int → Int → Bool} {i k : Nat} : (rowL F i k).length ≤ k := by
  unfold rowL
  rw [List.length_map]
  exact Nat.le_trans (List.length_filter_le _ _) (by simp)
theorem farP_len {F : Int → Int → Bool} {n : Nat} : ∀ {i : Nat},(farP F n i).length ≤ i * n
  | 0 => by simp [farP]
  | i + 1 => by
    rw [farP_succ,List.length_append]
    have := farP_len (F := F) (n := n) (i := i)
    have := rowL_len (F := F) (i := i) (k := n)
    rw [Nat.succ_mul]
    omega
theorem rowL_nodup {F : Int → Int → Bool} {i k : Nat} : (rowL F i k).Nodup := by
  induction k with
  | zero => simp [rowL]
  | succ k ih =>
    rw [rowL_succ,List.nodup_append]
    refine ⟨ih,by split <;> simp,fun a ha b hb => ?_⟩
    split at hb
    · have hb : b = ((i : Int),(k : Int)) := by simpa using hb
      rintro rfl
      rw [hb] at ha
      have := (mem_rowL.mp ha).2.2.1
      simp at this
    · simp at hb
theorem farP_nodup {F : Int → Int → Bool} {n i : Nat} : (farP F n i).Nodup := by
  induction i with
  | zero => simp [farP]
  | succ i ih =>
    rw [farP_succ,List.nodup_append]
    refine ⟨ih,rowL_nodup,fun a ha b hb => ?_⟩
    rintro rfl
    have h1 := (mem_farP.mp ha).2.1
    have h2 := (mem_rowL.mp hb).1
    omega
def kvF (l : List (Int × Int)) : List (Spot × V) := l.map fun p => (ck p.1 p.2,.bl true)
theorem kvF_keys {l : List (Int × Int)} {x y : Int} : ck x y ∈ (kvF l).map (·.1) ↔ (x,y) ∈ l := by
  unfold kvF
  rw [List.map_map]
  constructor
  · intro h
    obtain ⟨p,hp,e⟩ := List.mem_map.mp h
    obtain ⟨h1,h2⟩ := ck_inj e
    rw [← h1,← h2]
    exact hp
  · intro h
    exact List.mem_map.mpr ⟨(x,y),h,rfl⟩
theorem kvF_val {l : List (Int × Int)} {x y : Int} : (valV (kvF l) (ck x y)).isSome = true ↔ (x,y) ∈ l := by
  rw [← kvF_keys]
  constructor
  · intro h
    by_cases z : ck x y ∈ (kvF l).map (·.1)
    · exact z
    · rw [valV_out z] at h; cases h
  · exact valV_in
def FarD (H : Hp) (d : Addr) (m n : Nat) (F : Int → Int → Bool) : Prop := ∃ o,H d = some (.frz o (.dT (kvF (farL m n F))))
theorem FarD.mono {H H' : Hp} {d : Addr} {m n : Nat} {F : Int → Int → Bool} (h : FarD H d m n F) (s : Same H H') : FarD H' d m n F := let ⟨o,e⟩ := h; ⟨o,s _ _ e⟩
theorem FarD.get {H : Hp} {d b : Addr} {m n : Nat} {F : Int → Int → Bool} (h : FarD H d m n F) {x y : Int} (hb : H b = some (.tup [.int x,.int y])) : ∃ o,DGet H d (.ref b) o ∧ o.isSome = decide ((x,y) ∈ farL m n F) := by
  obtain ⟨o,e⟩ := h
  refine ⟨_,.inr ⟨_,ck x y,b,.inr ⟨o,e⟩,rfl,hb,rfl⟩,?_⟩
  rw [Bool.eq_iff_iff,kvF_val,decide_eq_true_iff]
def U (m n : Nat) : List Spot := (List.range (m + 1)).flatMap fun i => (List.range (n + 1)).map fun j => ck (i : Nat) (j : Nat)
theorem mem_U {m n : Nat} {s : Spot} : s ∈ U m n ↔ ∃ x y : Int,s = ck x y ∧ 0 ≤ x ∧ x ≤ m ∧ 0 ≤ y ∧ y ≤ n := by
  unfold U
  simp only [List.mem_flatMap,List.mem_range,List.mem_map]
  constructor
  · rintro ⟨i,hi,j,hj,rfl⟩
    exact ⟨_,_,rfl,by omega,by omega,by omega,by omega⟩
  · rintro ⟨x,y,rfl,h1,h2,h3,h4⟩
    refine ⟨x.toNat,by omega,y.toNat,by omega,?_⟩
    rw [show ((x.toNat : Nat) : Int) = x by omega,show ((y.toNat : Nat) : Int) = y by omega]
theorem U_len {m n : Nat} : (U m n).length = (m + 1) * (n + 1) := by
  unfold U
  induction (m + 1) with
  | zero => simp
  | succ k ih =>
    rw [List.range_succ (n := k),List.flatMap_append,List.length_append,ih,Nat.succ_mul]
    simp
theorem U_small {m n : Nat} (hm : m ≤ 20) (hn : n ≤ 20) : (U m n).length < 900 := by
  rw [U_len]
  have := Nat.mul_le_mul (show m + 1 ≤ 21 by omega) (show n + 1 ≤ 21 by omega)
  omega
def hopsOn (m n : Nat) (F : Int → Int → Bool) (i j : Int) : List (Int × Int) := [(i + 1,j + 1),(i + 1,j),(i,j + 1)].filter fun p => decide (p.1 ≤ m) && (decide (p.2 ≤ n) && !decide (p ∈ farL m n F))
def onS (m n : Nat) (F : Int → Int → Bool) : Spot → List (Spot × V)
  | [.inl i,.inl j] => (hopsOn m n F i j).map fun p => (ck p.1 p.2,.non)
  | _ => []
def asideI (u v : Int × Int) : Bool := (decide (v.1 - u.1 ≤ 0) && decide (u.2 - v.2 ≤ 1)) || (decide (v.1 - u.1 ≤ 1) && decide (u.2 - v.2 ≤ 0))
def asL (m n : Nat) (F : Int → Int → Bool) (i j : Int) : List (Int × Int) := (farL m n F).filter fun p => asideI (i,j) p
def asS (m n : Nat) (F : Int → Int → Bool) : Spot → List (Spot × V)
  | [.inl i,.inl j] => (asL m n F i j).map fun p => (ck p.1 p.2,.non)
  | _ => []
def finW (m n : Nat) : Spot → Bool
  | [.inl i,.inl j] => decide (i = m) && decide (j = n)
  | _ => false
def finF (m : Nat) : Spot → Bool
  | [.inl i,.inl j] => decide (j = 0) || decide (i = m)
  | _ => false
def begL (m n : Nat) (F : Int → Int → Bool) : List (Int × Int) := (farL m n F).filter fun p => decide (p.2 = n) || decide (p.1 = 0)
def NoHop (m n : Nat) (F : Int → Int → Bool) : Prop := F 0 0 = true ∨ Shut [ck 0 0] (onS m n F) (finW m n)
theorem on_shut {m n : Nat} {F : Int → Int → Bool} : ∀ s ∈ U m n,∀ e ∈ onS m n F s,e.1 ∈ U m n := by
  intro s hs e he
  obtain ⟨x,y,rfl,h1,h2,h3,h4⟩ := mem_U.mp hs
  obtain ⟨p,hp,rfl⟩ := List.mem_map.mp (show e ∈ (hopsOn m n F x y).map _ from he)
  unfold hopsOn at hp
  rw [List.mem_filter] at hp
  obtain ⟨g1,g2⟩ := hp
  simp only [Bool.and_eq_true,decide_eq_true_iff] at g2
  refine mem_U.mpr ⟨_,_,rfl,?_⟩
  simp only [List.mem_cons,List.not_mem_nil,or_false] at g1
  rcases g1 with rfl | rfl | rfl <;> (dsimp only at g2 ⊢; omega)
theorem as_shut {m n : Nat} {F : Int → Int → Bool} : ∀ s ∈ U m n,∀ e ∈ asS m n F s,e.1 ∈ U m n := by
  intro s hs e he
  obtain ⟨x,y,rfl,h1,h2,h3,h4⟩ := mem_U.mp hs
  obtain ⟨p,hp,rfl⟩ := List.mem_map.mp (show e ∈ (asL m n F x y).map _ from he)
  unfold asL at hp
  obtain ⟨g1,g2,g3,g4,g5⟩ := mem_farL.mp (List.mem_filter.mp hp).1
  exact mem_U.mpr ⟨_,_,rfl,g1,g2,g3,g4⟩
theorem on_few {m n : Nat} {F : Int → Int → Bool} : ∀ s ∈ U m n,(onS m n F s).length < 1000 := by
  intro s hs
  obtain ⟨x,y,rfl,_⟩ := mem_U.mp hs
  show ((hopsOn m n F x y).map _).length < 1000
  rw [List.length_map]
  unfold hopsOn
  exact Nat.lt_of_le_of_lt (List.length_filter_le _ _) (by simp)
theorem farL_len {m n : Nat} {F : Int → Int → Bool} (hm : m ≤ 20) (hn : n ≤ 20) : (farL m n F).length < 900 := by
  have h1 := farP_len (F := F) (n := n + 1) (i := m + 1)
  have := Nat.mul_le_mul (show m + 1 ≤ 21 by omega) (show n + 1 ≤ 21 by omega)
  unfold farL
  omega
theorem as_few {m n : Nat} {F : Int → Int → Bool} (hm : m ≤ 20) (hn : n ≤ 20) : ∀ s ∈ U m n,(asS m n F s).length < 1000 := by
  intro s hs
  obtain ⟨x,y,rfl,_⟩ := mem_U.mp hs
  show ((asL m n F x y).map _).length < 1000
  rw [List.length_map]
  unfold asL
  have := farL_len (F := F) hm hn
  exact Nat.lt_of_le_of_lt (List.length_filter_le _ _) (by omega)
theorem fence_there {m n : Nat} {F : Int → Int → Bool} (h : NoHop m n F) (hs : Shut ((begL m n F).map fun p => ck p.1 p.2) (asS m n F) (finF m)) : False := by
  obtain ⟨R,r1,r2,r3⟩ := hs
  have ex : ∃ u v,Ch (fun i j => ((i : Int),(j : Int)) ∈ farL m n F) m n u v ∧ (u.1 = 0 ∨ u.2 = n) ∧ (v.2 = 0 ∨ v.1 = m) := by
    rcases h with h | ⟨S,s1,s2,s3⟩
    · refine fence_ex (S := fun _ _ => False) (fun z => z (mem_farL.mpr ⟨by simp,by simp,by simp,by simp,h⟩)) (fun i j _ z => ?_) (m + n) m n rfl (fun z => z)
      rcases z with ⟨_,z⟩ | ⟨_,z⟩ | ⟨_,_,z⟩ <;> exact z
    · refine fence_ex (S := fun i j => i ≤ m ∧ j ≤ n → ck i j ∈ S) (fun z _ => s1 _ (by simp)) (fun i j hf z hb => ?_) (m + n) m n rfl (fun z => ?_)
      · have on : ∀ (x y : Int),ck x y ∈ S → ((i : Int),(j : Int)) ∈ [(x + 1,y + 1),(x + 1,y),(x,y + 1)] → ck i j ∈ S := fun x y hx hm => by
          refine s2 _ hx (ck i j,.non) (List.mem_map.mpr ⟨((i : Int),(j : Int)),List.mem_filter.mpr ⟨hm,?_⟩,rfl⟩)
          simp only [Bool.and_eq_true,decide_eq_true_iff,Bool.not_eq_true',decide_eq_false_iff_not]
          exact ⟨by omega,by omega,hf⟩
        rcases z with ⟨a,z⟩ | ⟨a,z⟩ | ⟨a,b,z⟩
        · refine on _ _ (z ⟨by omega,hb.2⟩) (List.mem_cons_of_mem _ (List.mem_cons.mpr (.inl ?_)))
          rw [Prod.mk.injEq]
          exact ⟨by omega,rfl⟩
        · refine on _ _ (z ⟨hb.1,by omega⟩) (List.mem_cons_of_mem _ (List.mem_cons_of_mem _ (List.mem_cons.mpr (.inl ?_))))
          rw [Prod.mk.injEq]
          exact ⟨rfl,by omega⟩
        · refine on _ _ (z ⟨by omega,by omega⟩) (List.mem_cons.mpr (.inl ?_))
          rw [Prod.mk.injEq]
          exact ⟨by omega,by omega⟩
      · have := s3 _ (z ⟨Nat.le_refl _,Nat.le_refl _⟩)
        unfold finW ck at this
        simp at this
  obtain ⟨u,v,c,hu,hv⟩ := ex
  have inR : ∀ {u v : Nat × Nat},Ch (fun i j => ((i : Int),(j : Int)) ∈ farL m n F) m n u v → ck u.1 u.2 ∈ R → ck v.1 v.2 ∈ R := by
    intro u v c
    induction c with
    | one _ _ _ => exact fun z => z
    | step c s h a b ih =>
      intro z
      refine r2 _ (ih z) (_,.non) (List.mem_map.mpr ⟨_,List.mem_filter.mpr ⟨h,?_⟩,rfl⟩)
      unfold asideI
      simp only [Bool.or_eq_true,Bool.and_eq_true,decide_eq_true_iff]
      rcases s with s | s
      · exact .inl (by omega)
      · exact .inr (by omega)
  have f := c.first
  have l := c.last
  have ru : ck u.1 u.2 ∈ R := by
    refine r1 _ (List.mem_map.mpr ⟨(u.1,u.2),List.mem_filter.mpr ⟨f.1,?_⟩,rfl⟩)
    simp only [Bool.or_eq_true,decide_eq_true_iff]
    omega
  have := r3 _ (inR c ru)
  unfold finF ck at this
  simp only [Bool.or_eq_false_iff,decide_eq_false_iff_not] at this
  omega
def prC (q : Pr) (c : Int × Int) : Prop := q.a = c.1 ∧ q.b = 1 ∧ q.c = c.2 ∧ q.d = 1
def dec : Spot → Int × Int
  | [.inl i,.inl j] => (i,j)
  | _ => (0,0)
def HopW (m n : Nat) (F : Int → Int → Bool) (ps : List Pr) : Prop := F 0 0 = false ∧ (∃ cs : List (Int × Int),Paired (fun c q => prC q c) cs ps ∧ (∃ r,cs = (0,0) :: r) ∧ cs.getLast? = some ((m : Int),(n : Int)) ∧ (∀ c ∈ cs,0 ≤ c.1 ∧ c.1 ≤ m ∧ 0 ≤ c.2 ∧ c.2 ≤ n) ∧ cs.length < 900 ∧ ∀ (i : Nat) a b,cs[i]? = some a → cs[i + 1]? = some b → b ∈ hopsOn m n F a.1 a.2) ∧ ∃ l,Found [ck 0 0] (onS m n F) (finW m n) l ∧ Paired (fun c q => prC q c) (l.map fun e => dec e.1) ps
def HopF (m n : Nat) (F : Int → Int → Bool) (ps : List Pr) : Prop := NoHop m n F ∧ (∃ cs : List (Int × Int),Paired (fun c q => prC q c) cs ps ∧ (∃ c r,cs = c :: r ∧ (c.2 = n ∨ c.1 = 0)) ∧ (∃ c,cs.getLast? = some c ∧ (c.2 = 0 ∨ c.1 = m)) ∧ (∀ c ∈ cs,c ∈ farL m n F) ∧ cs.length < 900 ∧ ∀ (i : Nat) a b,cs[i]? = some a → cs[i + 1]? = some b → asideI a b = true) ∧ ∃ l,Found ((begL m n F).map fun p => ck p.1 p.2) (asS m n F) (finF m) l ∧ Paired (fun c q => prC q c) (l.map fun e => dec e.1) ps
theorem road_in {bs U : List Spot} {stp : Spot → List (Spot × V)} {fin : Spot → Bool} {l : List (Spot × V)} (r : Road bs stp fin l) (hb : ∀ s ∈ bs,s ∈ U) (hs : ∀ s ∈ U,∀ e ∈ stp s,e.1 ∈ U) : ∀ (n : Nat) e,l[n]? = some e → e.1 ∈ U := by
  obtain ⟨⟨s,r',rfl,h1⟩,h2,_⟩ := r
  intro n
  induction n with
  | zero => intro e he; simp at he; subst he; exact hb s h1
  | succ k ih =>
    intro e he
    have lt := (List.getElem?_eq_some_iff.mp he).1
    obtain ⟨a,ha⟩ : ∃ a,((s,V.non) :: r')[k]? = some a := ⟨((s,V.non) :: r')[k]'(by omega),by rw [List.getElem?_eq_getElem (by omega)]⟩
    exact hs _ (ih a ha) e (h2 k a e ha he)
def PrL (H : Hp) (l : List (Spot × V)) (ps : List Pr) : Prop := Paired (fun (e : Spot × V) q => PrAt H q ∧ prC q (dec e.1)) l ps
theorem prL_of {H : Hp} : ∀ {l : List (Spot × V)} {ys : List V},ys.length = l.length → (∀ (i : Nat) y,ys[i]? = some y → ∃ q e,l[i]? = some e ∧ y = V.ref q.p ∧ PrAt H q ∧ prC q (dec e.1)) → ∃ ps,ys = prs ps ∧ PrL H l ps
  | [],[],_,_ => ⟨[],rfl,.nil⟩
  | [],_ :: _,h,_ => by simp at h
  | _ :: _,[],h,_ => by simp at h
  | e :: l,y :: ys,h,hh => by
    obtain ⟨ps,h1,h2⟩ := prL_of (l := l) (ys := ys) (by simpa using h) fun i z hz => by
      obtain ⟨q,e',g1,g2⟩ := hh (i + 1) z (by simpa using hz)
      exact ⟨q,e',by simpa using g1,g2⟩
    obtain ⟨q,e',g1,g2,g3⟩ := hh 0 y rfl
    have : e = e' := by simpa using g1
    subst this
    exact ⟨q :: ps,by rw [h1,g2]; rfl,.cons g3 h2⟩
theorem PrL.at {H : Hp} {l : List (Spot × V)} {ps : List Pr} {r : Addr} (h : PrL H l ps) (hr : H r = some (.lst (prs ps))) : PairsAt H r ps := by
  refine ⟨hr,fun q hq => ?_⟩
  obtain ⟨i,hi⟩ := List.getElem?_of_mem hq
  obtain ⟨e,_,h1,_⟩ := paired_get' h i q hi
  exact h1
theorem PrL.cs {H : Hp} : ∀ {l : List (Spot × V)} {ps : List Pr},PrL H l ps → Paired (fun c q => prC q c) (l.map fun e => dec e.1) ps := by
  intro l ps h
  induction h with
  | nil => exact .nil
  | cons a r ih => exact .cons a.2 ih
theorem walk_of {m n : Nat} {F : Int → Int → Bool} {H : Hp} {l : List (Spot × V)} {ps : List Pr} (h0 : F 0 0 = false) (r : Road [ck 0 0] (onS m n F) (finW m n) l) (fo : Found [ck 0 0] (onS m n F) (finW m n) l) (hl : l.length < 900) (h : PrL H l ps) : HopW m n F ps := by
  have inU := road_in r (U := U m n) (fun s hs => by rw [List.mem_singleton.mp hs]; exact mem_U.mpr ⟨0,0,rfl,by simp,by simp,by simp,by simp⟩) on_shut
  have get : ∀ (k : Nat) c,(l.map fun e => dec e.1)[k]? = some c → ∃ e,l[k]? = some e ∧ e.1 = ck c.1 c.2 ∧ 0 ≤ c.1 ∧ c.1 ≤ m ∧ 0 ≤ c.2 ∧ c.2 ≤ n := fun k c hc => by
    rw [List.getElem?_map] at hc
    obtain ⟨e,he,rfl⟩ := Option.map_eq_some_iff.mp hc
    obtain ⟨x,y,e1,g⟩ := mem_U.mp (inU k e he)
    refine ⟨e,he,?_⟩
    rw [e1]
    exact ⟨rfl,g⟩
  refine ⟨h0,⟨l.map fun e => dec e.1,h.cs,?_,?_,fun c hc => ?_,by rw [List.length_map]; exact hl,fun k a b ha hb => ?_⟩,l,fo,h.cs⟩
  · obtain ⟨⟨s,r',rfl,hs⟩,_⟩ := r
    rw [List.mem_singleton.mp hs]
    exact ⟨_,rfl⟩
  · obtain ⟨_,_,a,ha,hf⟩ := r
    rw [List.getLast?_map,ha]
    rw [List.getLast?_eq_getElem?] at ha
    obtain ⟨x,y,e1,g⟩ := mem_U.mp (inU _ a ha)
    rw [e1] at hf
    show some (dec a.1) = _
    rw [e1]
    unfold finW ck at hf
    simp only [Bool.and_eq_true,decide_eq_true_iff] at hf
    show some (x,y) = _
    rw [hf.1,hf.2]
  · obtain ⟨k,hk⟩ := List.getElem?_of_mem hc
    obtain ⟨e,_,_,g⟩ := get k c hk
    exact g
  · obtain ⟨e,he,e1,_⟩ := get k a ha
    obtain ⟨e',he',e2,_⟩ := get (k + 1) b hb
    have := r.2.1 k e e' he he'
    rw [e1] at this
    obtain ⟨p,hp,e3⟩ := List.mem_map.mp (show e' ∈ (hopsOn m n F a.1 a.2).map _ from this)
    rw [← e3] at e2
    obtain ⟨z1,z2⟩ := ck_inj e2
    have : p = b := Prod.ext z1 z2
    rw [← this]
    exact hp
theorem fence_of {m n : Nat} {F : Int → Int → Bool} {H : Hp} {l : List (Spot × V)} {ps : List Pr} (h0 : NoHop m n F) (r : Road ((begL m n F).map fun p => ck p.1 p.2) (asS m n F) (finF m) l) (fo : Found ((begL m n F).map fun p => ck p.1 p.2) (asS m n F) (finF m) l) (hl : l.length < 900) (h : PrL H l ps) : HopF m n F ps := by
  have bU : ∀ s ∈ (begL m n F).map fun p => ck p.1 p.2,s ∈ U m n := fun s hs => by
    obtain ⟨p,hp,rfl⟩ := List.mem_map.mp hs
    obtain ⟨g1,g2,g3,g4,_⟩ := mem_farL.mp (List.mem_filter.mp hp).1
    exact mem_U.mpr ⟨_,_,rfl,g1,g2,g3,g4⟩
  have inU := road_in r (U := U m n) bU as_shut
  have get : ∀ (k : Nat) c,(l.map fun e => dec e.1)[k]? = some c → ∃ e,l[k]? = some e ∧ e.1 = ck c.1 c.2 := fun k c hc => by
    rw [List.getElem?_map] at hc
    obtain ⟨e,he,rfl⟩ := Option.map_eq_some_iff.mp hc
    obtain ⟨x,y,e1,g⟩ := mem_U.mp (inU k e he)
    exact ⟨e,he,by rw [e1]; rfl⟩
  have far : ∀ (k : Nat) c,(l.map fun e => dec e.1)[k]? = some c → c ∈ farL m n F := fun k c hc => by
    obtain ⟨e,he,e1⟩ := get k c hc
    cases k with
    | zero =>
      obtain ⟨⟨s,r',rfl,hs⟩,_⟩ := r
      simp at he
      subst he
      obtain ⟨p,hp,e2⟩ := List.mem_map.mp hs
      obtain ⟨z1,z2⟩ := ck_inj (e2.trans e1)
      have : p = c := Prod.ext z1 z2
      rw [← this]
      exact (List.mem_filter.mp hp).1
    | succ k =>
      have lt := (List.getElem?_eq_some_iff.mp he).1
      obtain ⟨a,ha⟩ : ∃ a,l[k]? = some a := ⟨l[k]'(by omega),by rw [List.getElem?_eq_getElem (by omega)]⟩
      have st := r.2.1 k a e ha he
      obtain ⟨x,y,e2,_⟩ := mem_U.mp (inU k a ha)
      rw [e2] at st
      obtain ⟨p,hp,e3⟩ := List.mem_map.mp (show e ∈ (asL m n F x y).map _ from st)
      rw [← e3] at e1
      obtain ⟨z1,z2⟩ := ck_inj e1
      have : p = c := Prod.ext z1 z2
      rw [← this]
      exact (List.mem_filter.mp hp).1
  refine ⟨h0,⟨l.map fun e => dec e.1,h.cs,?_,?_,fun c hc => ?_,by rw [List.length_map]; exact hl,fun k a b ha hb => ?_⟩,l,fo,h.cs⟩
  · obtain ⟨⟨s,r',rfl,hs⟩,_⟩ := r
    obtain ⟨p,hp,rfl⟩ := List.mem_map.mp hs
    refine ⟨p,_,rfl,?_⟩
    have := (List.mem_filter.mp hp).2
    simpa only [Bool.or_eq_true,decide_eq_true_iff] using this
  · obtain ⟨_,_,a,ha,hf⟩ := r
    refine ⟨dec a.1,by rw [List.getLast?_map,ha]; rfl,?_⟩
    rw [List.getLast?_eq_getElem?] at ha
    obtain ⟨x,y,e1,g⟩ := mem_U.mp (inU _ a ha)
    rw [e1] at hf ⊢
    unfold finF ck at hf
    simp only [Bool.or_eq_true,decide_eq_true_iff] at hf
    exact hf
  · obtain ⟨k,hk⟩ := List.getElem?_of_mem hc
    exact far k c hk
  · obtain ⟨e,he,e1⟩ := get k a ha
    obtain ⟨e',he',e2⟩ := get (k + 1) b hb
    have := r.2.1 k e e' he he'
    rw [e1] at this
    obtain ⟨p,hp,e3⟩ := List.mem_map.mp (show e' ∈ (asL m n F a.1 a.2).map _ from this)
    rw [← e3] at e2
    obtain ⟨z1,z2⟩ := ck_inj e2
    have : p = b := Prod.ext z1 z2
    rw [← this]
    exact (List.mem_filter.mp hp).2
theorem road_putc {C : List Addr} {H H1 : Hp} {r : Addr} {l : List (Spot × V)} (hC : ∀ c ∈ C,H1 c = none) (x : RoadAt H1 r l) : RoadAt (putc C H H1) r l := by
  obtain ⟨vs,e,p⟩ := x
  refine ⟨vs,putc_get hC e,Paired.mapP p fun a b ⟨t,sv,x1,x2,q,x3,x4⟩ => ⟨t,sv,x1,putc_get hC x2,q,x3,putc_get hC x4⟩⟩
theorem road_kn {H H1 : Hp} {r : Addr} {l : List (Spot × V)} (h : ∀ b o,H b = some o → (∀ z,o ≠ KnO z) → H1 b = some o) (x : RoadAt H r l) : RoadAt H1 r l := by
  obtain ⟨vs,e,p⟩ := x
  exact ⟨vs,h _ _ e (fun z q => by cases q),Paired.mapP p fun a b ⟨t,sv,x1,x2,q,x3,x4⟩ => ⟨t,sv,x1,h _ _ x2 (fun z q => by cases q),q,x3,h _ _ x4 (fun z q => by cases q)⟩⟩
end Sk
namespace Sk
open PySem PySem.Spec L2 Sp24 Wk
inductive Rch (m n : Nat) (F : Int → Int → Bool) : Int → Int → Prop
  | z : F 0 0 = false → Rch m n F 0 0
  | s {i j x y : Int} : Rch m n F i j → ((x = i + 1 ∧ y = j + 1) ∨ (x = i + 1 ∧ y = j) ∨ (x = i ∧ y = j + 1)) → x ≤ m → y ≤ n → F x y = false → Rch m n F x y
theorem Rch.begins {m n : Nat} {F : Int → Int → Bool} {i j : Int} (h : Rch m n F i j) : F 0 0 = false := by
  induction h with
  | z h => exact h
  | s _ _ _ _ _ ih => exact ih
theorem hopW_rch {m n : Nat} {F : Int → Int → Bool} {ps : List Pr} (h : HopW m n F ps) : Rch m n F m n := by
  obtain ⟨h0,⟨cs,_,⟨r,hr⟩,hl,hb,_,hs⟩,_⟩ := h
  have all : ∀ (k : Nat) c,cs[k]? = some c → Rch m n F c.1 c.2 := by
    intro k
    induction k with
    | zero =>
      intro c hc
      rw [hr] at hc
      have : (0,0) = c := by simpa using hc
      rw [← this]
      exact .z h0
    | succ k ih =>
      intro c hc
      have lt := (List.getElem?_eq_some_iff.mp hc).1
      obtain ⟨a,ha⟩ : ∃ a,cs[k]? = some a := ⟨cs[k]'(by omega),by rw [List.getElem?_eq_getElem (by omega)]⟩
      have st := hs k a c ha hc
      unfold hopsOn at st
      rw [List.mem_filter] at st
      obtain ⟨g1,g2⟩ := st
      simp only [Bool.and_eq_true,decide_eq_true_iff,Bool.not_eq_true',decide_eq_false_iff_not] at g2
      have bc := hb c (List.mem_of_getElem? hc)
      refine .s (ih a ha) ?_ g2.1 g2.2.1 ?_
      · simp only [List.mem_cons,List.not_mem_nil,or_false] at g1
        rcases g1 with rfl | rfl | rfl
        · exact .inl ⟨rfl,rfl⟩
        · exact .inr (.inl ⟨rfl,rfl⟩)
        · exact .inr (.inr ⟨rfl,rfl⟩)
      · cases e : F c.1 c.2 with
        | false => rfl
        | true => exact absurd (mem_farL.mpr ⟨bc.1,bc.2.1,bc.2.2.1,bc.2.2.2,e⟩) g2.2.2
  rw [List.getLast?_eq_getElem?] at hl
  exact all _ _ hl
theorem noHop_rch {m n : Nat} {F : Int → Int → Bool} (h : NoHop m n F) : ¬ Rch m n F m n := by
  intro hr
  rcases h with h | ⟨R,r1,r2,r3⟩
  · rw [hr.begins] at h
    cases h
  · have inR : ∀ {i j : Int},Rch m n F i j → ck i j ∈ R := by
      intro i j h
      induction h with
      | z _ => exact r1 _ (by simp)
      | @s i j x y h st hx hy hf ih =>
        refine r2 _ ih (ck x y,.non) (List.mem_map.mpr ⟨(x,y),List.mem_filter.mpr ⟨?_,?_⟩,rfl⟩)
        · simp only [List.mem_cons,Prod.mk.injEq,List.not_mem_nil,or_false]
          exact st
        · simp only [Bool.and_eq_true,decide_eq_true_iff,Bool.not_eq_true',decide_eq_false_iff_not]
          refine ⟨hx,hy,fun z => ?_⟩
          have := (mem_farL.mp z).2.2.2.2
          rw [hf] at this
          cases this
    have := r3 _ (inR hr)
    unfold finW ck at this
    simp at this
end Sk
namespace L2
open PySem PySem.Spec PyProof.Rows
section
variable {prog : Program} {w : World} {A : Around} {E : Value → Shared → Prop} {s : Shared}
end
section
variable {X : Cx}
end
end L2
namespace L2
open PySem PySem.Spec PyProof.Rows
theorem comp_lstF {K : PySem.W.Frag} {a : Addr} {xs : List V} {fv : List (Str × Nat)} {g : TG} {tc : TT} {te : TE} {σ : St} {H1 : Hp} {Q : VK} {k : Nat} (hD : H1 a = some (.lst xs)) (hlen : xs.length < 1000) (sel : Nat → Bool) (R : Nat → V → Prop)
    (hs : ∀ (i : Nat) x H2 (τ : St) (Kc : VK) (Kn : Hp → Prop),xs[i]? = some x → Same H1 H2 → τ.length = k → (sel i = true → ∀ y H4,Same H2 H4 → R i y → Kc y H4) → (sel i = false → ∀ H4,Same H2 H4 → Kn H4) →
      g x (τ ++ fvs fv σ) H2 fun σ2 H4 => (∃ τ' : St,τ'.length = k ∧ σ2 = τ' ++ fvs fv σ) ∧ tc σ2 H4 fun b H5 => if b = true then te σ2 H5 Kc else Kn H5)
    (hd : ∀ l ys H',H1 l = none → Same H1 H' → H' l = some (.lst ys) → Paired R ((List.range xs.length).filter sel) ys → Q (.ref l) H') : CompAtG (Itl K a) k fv g tc te σ H1 Q := by
  intro l hl
  have la : l ≠ a := fun z => by rw [z,hD] at hl; cases hl
  refine ⟨fun i m acc H2 => m = xs.length - i ∧ i ≤ xs.length ∧ acc.length ≤ i ∧ Same H1 H2 ∧ H2 l = some (.lst acc) ∧ Paired R ((List.range i).filter sel) acc,⟨_,rfl,Nat.zero_le _,Nat.le_refl _,Same.new hl,upd_same,.nil⟩,?_⟩
  rintro i m acc H2 ⟨rfl,hi,e1,sm,e3,hr⟩
  refine ⟨e3,small1000 (by omega),?_⟩
  by_cases hlt : i < xs.length
  · refine .inr ⟨⟨xs,xs[i],SqL.of (sm _ _ hD),List.getElem?_eq_getElem hlt⟩,fun x H3 y τ hτ => ?_⟩
    obtain ⟨rfl,e⟩ := y
    have hx := e xs (SqL.of (sm _ _ hD))
    refine hs i x H3 τ _ _ hx sm hτ (fun hsel y H4 s4 ry => ⟨s4 _ _ e3,xs.length - (i + 1),by omega,rfl,hlt,by simp; exact e1,(sm.trans s4).upd hl,upd_same,?_⟩) fun hsel H4 s4 => ⟨xs.length - (i + 1),by omega,rfl,hlt,by omega,sm.trans s4,s4 _ _ e3,?_⟩
    · rw [List.range_succ,List.filter_append,List.filter_cons,hsel]
      exact Paired.snoc hr ry
    · rw [List.range_succ,List.filter_append,List.filter_cons,hsel]
      simp only [Bool.false_eq_true,if_false,List.filter_nil,List.append_nil]
      exact hr
  · have e : i = xs.length := by omega
    subst e
    exact .inl ⟨⟨xs,SqL.of (sm _ _ hD),Nat.le_refl _⟩,hd l acc H2 hl sm e3 hr⟩
end L2
namespace Sk
open PySem PySem.Spec L2 Sp24 Wk
end Sk
namespace L2
open PySem PySem.Spec PyProof.Rows
section
variable {prog : Program} {w : World} {A : Around} {E : Value → Shared → Prop} {s : Shared}
end
section
variable {X : Cx} {o : Expr} {lo hi : Option Expr} {to : TE} {tl th : TO} {pos p2 : Pos}
end
end L2
namespace L2
open PySem PySem.Spec PyProof.Rows
section
variable {X : Cx}
end
end L2
namespace L2
open PySem PySem.Spec PyProof.Rows
section
variable {X : Cx}
end
end L2
namespace L2
open PySem PySem.Spec PyProof.Rows
section
variable {X : Cx}
end
end L2
namespace L2
open PySem PySem.Spec PyProof.Rows
section
variable {X : Cx}
end
end L2
namespace L2
open PySem PySem.Spec PyProof.Rows
section
variable {M : Model} {A : Around} {E : Value → Shared → Prop} {s : Shared}
end
end L2
namespace L2
open PySem PySem.Spec PyProof.Rows
section
variable {P : Program} {w : World} {K : PySem.W.Frag} {mg : Str → Option Value} {base : Heap} {N : List Str} {qual : Str} {scope : Scope} {f : Addr} {cdv : Value} {A : Around} {outer : List Env} {s₀ : Shared} {H₀ : Hp} {E : XK}
end
end L2
namespace L2
open PySem PySem.Spec PyProof.Rows
section
variable {X : Cx} {scope : Scope} {cl : List (Str × Addr)} {x : Str} {fv : List (Str × Nat)} {elt iter : Expr} {px pos : Pos} {te : TE}
end
section
variable {P : Program} {w : World} {K : PySem.W.Frag} {mg : Str → Option Value} {base : Heap} {N : List Str} {qual : Str} {scope' : Scope} {f : Addr} {cdv : Value} {A : Around} {outer : List Env} {s₀ : Shared} {H₀ : Hp} {E : XK}
variable {scope : Scope} {cl : List (Str × Addr)} {x : Str} {fv : List (Str × Nat)} {elt iter : Expr} {px pos : Pos} {te : TE}
end
end L2
namespace L2
open PySem PySem.Spec PyProof.Rows
end L2
namespace Hd
open PySem PySem.W PySem.Spec L2
def live (o : Obj) : Bool := match o.data with
  | .freed => false
  | _ => true
def nums : Nat → List Obj → Frag
  | _,[] => []
  | n,a :: r => bif live a then (n,a) :: nums (n + 1) r else nums (n + 1) r
def frag (h : Heap) : Frag := nums 0 h.objs.toList
def fnFact (K : Frag) (x : Str) : Option (Arguments × List Stmt × Scope × Value) := match nsIn K mainGlobals x with
  | some (some (.ref f)) => (match K.lookup f with
    | some ⟨_,_,.func fd,_⟩ => (match fd.body,fd.closure with
      | .stmts b,[] => bif (fd.name == x && (fd.qualname == x && (Nat.beq fd.globals mainGlobals && (Nat.beq fd.builtins builtinsNs && codeIn K fd.code x)))) then some (fd.params,b,fd.scope,fd.defaults) else none
      | _,_ => none)
    | _ => none)
  | _ => none
theorem fnFact_spec {K : Frag} {x : Str} {a : Arguments} {b : List Stmt} {sc : Scope} {dv : Value} (e : fnFact K x = some (a,b,sc,dv)) :
    ∃ (f : Addr) (oc : Value) (od : Option Addr) (kV doc pm : Value) (an : Option Addr) (cdv ct : Value) (osl : Array (Option Value)),
      nsIn K mainGlobals x = some (some (.ref f)) ∧ K.lookup f = some ⟨oc,od,.func (fnOf x x a b sc dv kV doc pm an cdv ct),osl⟩ ∧ codeIn K cdv x = true ∧ keepIn K (.ref f) = true := by
  unfold fnFact at e
  split at e
  · rename_i f hf
    split at e
    · rename_i oc od fd osl hl
      split at e
      · rename_i b' hb hc
        cases hq : (fd.name == x && (fd.qualname == x && (Nat.beq fd.globals mainGlobals && (Nat.beq fd.builtins builtinsNs && codeIn K fd.code x)))) with
        | false => rw [hq] at e; cases e
        | true =>
          rw [hq] at e
          simp only [Bool.and_eq_true] at hq
          obtain ⟨h1,h2,h3,h4,h5⟩ := hq
          replace h1 := eq_of_beq h1
          replace h2 := eq_of_beq h2
          replace h3 := Nat.eq_of_beq_eq_true h3
          replace h4 := Nat.eq_of_beq_eq_true h4
          simp only [cond_true,Option.some.injEq,Prod.mk.injEq] at e
          obtain ⟨e1,e2,e3,e4⟩ := e
          obtain ⟨n,qn,ps,bd,s,gl,cl,df,kw,dc,pm,an,cd,ct,bl⟩ := fd
          simp only at h1 h2 h3 h4 h5 e1 e2 e3 e4 hb hc
          subst h1 h2 h3 h4 e1 e2 e3 e4 hb hc
          refine ⟨f,oc,od,kw,dc,pm,an,cd,ct,osl,hf,hl,h5,?_⟩
          unfold keepIn
          dsimp only
          rw [hl]
      · cases e
    · cases e
  · cases e
theorem df_of {K : Frag} {mg : Str → Option Value} {h : Heap} {x : Str} {st : Stmt} (X : K.In h) (G : h.Ns mainGlobals mg) (e : fnFact K x = some (defArgs st,defBody st,defScope st,.none)) : Df K mg x st := by
  obtain ⟨f,oc,od,kV,doc,pm,an,cdv,ct,osl,h1,h2,h3,h4⟩ := fnFact_spec e
  exact df_mk X G h1 h2 h3 h4
def bareV : Value → V
  | .none => .non
  | .bool b => .bl b
  | .int i _ => .int i
  | .str x _ => .str x
  | .bytes b _ => .byt b
  | .float b _ => .flt b
  | .ref a => .ref a
  | .type n => .ty n
  | _ => .ty "no plain value"
def plainV : Value → Bool
  | .ellipsis | .notImplemented | .builtin _ => false
  | _ => true
def seqAt (K : Frag) (v : Value) : Option (List V) := match v with
  | .ref a => (match K.lookup a with
    | some ⟨_,_,.seq its _,_⟩ => bif its.toList.all plainV then some (its.toList.map bareV) else none
    | _ => none)
  | _ => none
def fnFactD (K : Frag) (x : Str) : Option (Arguments × List Stmt × Scope × List V) := match fnFact K x with
  | some (a,b,s,dv) => (match seqAt K dv with
    | some ds => some (a,b,s,ds)
    | none => none)
  | none => none
def cls (K : Frag) (x : Str) : Addr := match nsIn K mainGlobals x with
  | some (some (.ref C)) => C
  | _ => 0
def excFact (K : Frag) (x : Str) : Bool := match nsIn K mainGlobals x with
  | some (some (.ref C)) => excIn K C [.type "ValueError",.type "Exception",.type "BaseException",.type "object"] "ValueError.__new__"
  | _ => false
theorem exc_of {K : Frag} {mg : Str → Option Value} {h : Heap} {x : Str} (X : K.In h) (G : h.Ns mainGlobals mg) (e : excFact K x = true) : ExcC K mg x (cls K x) := by
  unfold excFact at e
  split at e
  · rename_i C hC
    have : cls K x = C := by unfold cls; rw [hC]
    rw [this]
    exact exc_mk X G hC e
  · cases e
def tupFact (K : Frag) (x : Str) : Option (List V) := match nsIn K mainGlobals x with
  | some (some (.ref a)) => (match K.lookup a with
    | some ⟨.type "tuple",_,.seq its _,_⟩ => bif its.toList.all plainV then some (its.toList.map bareV) else none
    | _ => none)
  | _ => none
def noFact (K : Frag) (x : Str) : Bool := match nsIn K mainGlobals x with
  | some none => true
  | _ => false
theorem no_of {K : Frag} {x : Str} (e : noFact K x = true) : nsIn K mainGlobals x = some none := by
  unfold noFact at e
  split at e
  · rename_i h
    exact h
  · cases e
theorem at_map {α β : Type} {f g : α → β} {l : List α} (e : l.map f = l.map g) (i : Nat) {a : α} (h : l[i]? = some a) : f a = g a := by
  have q := congrArg (fun l : List β => l[i]?) e
  simp only [List.getElem?_map,h,Option.map_some,Option.some.injEq] at q
  exact q
theorem at_all {α : Type} {f : α → Bool} {l : List α} (e : l.all f = true) (i : Nat) {a : α} (h : l[i]? = some a) : f a = true :=
  List.all_eq_true.mp e a (List.mem_of_getElem? h)
end Hd
namespace Hd
open PySem PySem.W PySem.Spec L2
end Hd
namespace L2
open PySem PySem.Spec PyProof.Rows
end L2
namespace Hd
open PySem PySem.W PySem.Spec L2
theorem pair2 {α β : Type _} {a a' : α} {b b' : β} (h : a = a') (g : b = b') : (a,b) = (a',b') := by rw [h,g]
end Hd
namespace L2
open PySem PySem.Spec PyProof.Rows PySem.W
theorem law_callT {P : Program} {w : World} {K : PySem.W.Frag} {mg mb : Str → Option Value} {k : Nat} {fa a : Addr} {fd : FuncData} {x : Str} {sp : Sp} {s₁ : Shared} {vs : List Value} {ns : List Int} {tabs : List Addr}
    (KX : K.In s₁.heap) (hKt : ∀ p ∈ tabs,K.lookup p = none) (hT : ∀ p ∈ tabs,s₁.heap.get? p = some (tabObj #[])) (hTc : ∀ p ∈ tabs,isCodeTable s₁.heap p)
    (hns : s₁.heap.Ns mainGlobals mg) (hb : s₁.heap.Ns builtinsNs mb) (hbb : ∀ x : Str,x ≠ "__name__" → mb x = bootBuiltins x) (hlim : s₁.heap.NoLimit) (hg : s₁.gens = #[])
    (ha : s₁.heap.get? a = some { cls := .type "list",data := .seq vs.toArray }) (hi : IntsAre vs ns) (hl : ns.length ≤ sizeLine) (hr : Room k callerA)
    (F : ∀ base : Heap,K.In base → base.Ns mainGlobals mg → FnOk P w K mg base CX0 k fa fd [x] sp) (hbind : ∀ (s : Shared) (u : Value),BindsTo s fd ⟨[u],[]⟩ [(x,u)])
    (hsp : ∀ H : Hp,SqL K H a (ns.map V.int) → (∀ p ∈ tabs,H p = some (.tbl #[])) → sp [.ref a] H (fun v _ => v = .bl true) fun _ _ _ => False) :
    codeAny (model P w) callerA (.call (.ref fa) ⟨[.ref a],[]⟩) (fun r s' => r = .ok (.ret (.bool true)) ∧ OldK s₁.heap s'.heap ∧ s'.os = s₁.os ∧ AllBare s'.gens) s₁ := by
  have rv := vals_ints hi
  have lenV := hi.length
  have atab : a ∉ tabs := fun z => by rw [hT a z] at ha; cases ha
  have core : ∀ H : Hp,SqL K H a (ns.map V.int) → (∀ p ∈ tabs,H p = some (.tbl #[])) → HOk P w H s₁.heap → (∀ b,H b ≠ none → b ∈ tabs ∨ (b = a ∧ K.lookup a = none ∧ ∃ o xs,H b = some (.frz o (.lst xs)))) →
      codeAny (model P w) callerA (.call (.ref fa) ⟨[.ref a],[]⟩) (fun r s' => r = .ok (.ret (.bool true)) ∧ OldK s₁.heap s'.heap ∧ s'.os = s₁.os ∧ AllBare s'.gens) s₁ := by
    intro H hS hTb hok hA
    have base_of : ∀ {b : Addr} {o : Obj},s₁.heap.get? b = some o → H b = none → (hidT s₁.heap H).get? b = some o := fun e n => hidT_get e n
    have noA : ∀ {b : Addr} {o : Obj} {es : Array DictEntry} {ep : Nat},s₁.heap.get? b = some o → o.data = .dict es ep → H b = none := fun {b o es ep} e d => by
      cases q : H b with
      | none => rfl
      | some u =>
        rcases hA b (by rw [q]; simp) with z | ⟨e',_⟩
        · rw [hT b z] at e; cases e
          have d' : Data.fields _ = Data.dict es ep := d
          cases d'
        · subst e'
          rw [ha] at e; cases e
          have d' : Data.seq vs.toArray _ = Data.dict es ep := d
          cases d'
    have nsK : ∀ {b : Addr} {m : Str → Option Value},s₁.heap.Ns b m → (hidT s₁.heap H).Ns b m := fun {b m} ⟨o,es,ep,e,d,r⟩ => ⟨o,es,ep,base_of e (noA e d),d,r⟩
    have hKb : K.In (hidT s₁.heap H) := fun b o e => base_of (KX b o e) (by
      cases q : H b with
      | none => rfl
      | some u =>
        rcases hA b (by rw [q]; simp) with z | ⟨e',hk,_⟩
        · rw [hKt b z] at e; cases e
        · subst e'
          rw [hk] at e; cases e)
    have hM : Mod K mg (hidT s₁.heap H) := ⟨hKb,nsK hns,⟨mb,nsK hb,hbb⟩,let ⟨mc,h1,h2⟩ := hlim; ⟨mc,nsK h1,h2⟩⟩
    have e0 : Env0 P w K mg (hidT s₁.heap H) callerA [] s₁ H := ⟨rfl,hM,fun b o e => of_hidT e,Nat.le_of_eq (hidT_size _ _),trivial,fun b hb => absurd (show b ∈ ([] : List Addr) from hb) (by simp),hok,.of_eq hg⟩
    refine codeAny_mono ((F _ hKb (nsK hns)).run callerA [] s₁ H ⟨[.ref a],[]⟩ [.ref a] [.ref a] _ _ hr e0 (hbind s₁ (.ref a)) (.cons rfl .nil) (hsp H hS hTb)) fun r s' h => ?_
    cases r with
    | error e => exact False.elim h
    | ok fl =>
      cases fl with
      | next => exact False.elim h
      | brk => exact False.elim h
      | cont => exact False.elim h
      | ret u =>
        obtain ⟨v,H',os,bare,un,hok',r',q⟩ := h
        have q' : v = .bl true := q
        subst q'
        obtain rfl : u = Value.bool true := r'
        refine ⟨rfl,⟨fun b o e => ?_,fun b o e => un.there b o e (by simp)⟩,os,bare⟩
        cases q : H b with
        | none => exact .inl (un.keep b o e q (by intro z; exact absurd (show b ∈ ([] : List Addr) from z) (by simp)) (by simp))
        | some u =>
          rcases hA b (by rw [q]; simp) with z | ⟨_,_,ob,xs,z⟩
          · obtain ⟨more,q2⟩ := un.tbls b #[] (hTb b z)
            have e2 : s'.heap.get? b = some { cls := .none,data := .fields (#[] ++ more) } := hok' b _ q2
            rw [hT b z] at e
            cases e
            exact .inr (.inl ⟨hTc b z,rfl,#[],more,rfl,e2⟩)
          · have z2 := un.frzs b ob _ z
            obtain ⟨e1,_⟩ := hok b _ z
            obtain ⟨e2,_⟩ := hok' b _ z2
            rw [e] at e1; cases e1
            exact .inl e2
  let Ht : Hp := fun b => if b ∈ tabs then some (.tbl #[]) else none
  have tb : ∀ p ∈ tabs,Ht p = some (.tbl #[]) := fun p hp => if_pos hp
  have tn : ∀ b,b ∉ tabs → Ht b = none := fun b hb => if_neg hb
  have tok : HOk P w Ht s₁.heap := fun b u e => by
    by_cases z : b ∈ tabs
    · rw [tb b z] at e; cases e
      exact hT b z
    · rw [tn b z] at e; cases e
  cases hk : K.lookup a with
  | some o =>
    have e := KX a o hk
    rw [ha] at e
    cases e
    refine core Ht (.inr ⟨_,vs.toArray,_,hk,rfl,rfl,rfl,by rw [List.size_toArray,lenV]; exact hl,by simpa using rv⟩) tb tok fun b z => ?_
    by_cases hb : b ∈ tabs
    · exact .inl hb
    · exact absurd (tn b hb) z
  | none =>
    have nb : Ht a = none := tn a atab
    have sm : ∀ b o,Ht b = some o → upd Ht a (.frz { cls := .type "list",data := .seq vs.toArray } (.lst (ns.map V.int))) b = some o := fun b o e => by
      rw [upd_ne (fun z => by rw [z,nb] at e; cases e)]; exact e
    refine core (upd Ht a (.frz { cls := .type "list",data := .seq vs.toArray } (.lst (ns.map V.int)))) (.inl (.inr ⟨{ cls := .type "list",data := .seq vs.toArray },upd_same⟩)) (fun p hp => sm p _ (tb p hp)) (fun b u z => ?_) fun b z => ?_
    · by_cases hb : b = a
      · subst hb
        rw [upd_same] at z
        cases z
        exact ⟨ha,by rw [List.length_map]; exact hl,vs,_,rv,ha⟩
      · rw [upd_ne hb] at z
        exact (tok b u z).stay (fun _ _ _ q => q) (fun d q => sm d _ q) fun d xs q => sm d _ q
    · by_cases hb : b = a
      · exact .inr ⟨hb,hk,_,_,by rw [hb]; exact upd_same⟩
      · rw [upd_ne hb] at z
        by_cases ht : b ∈ tabs
        · exact .inl ht
        · exact absurd (tn b ht) z
def spLawT (K : PySem.W.Frag) (tabs : List Addr) : Sp := fun vs H Q _ => ∃ (a : Addr) (ns : List Int),vs = [.ref a] ∧ SqL K H a (ns.map V.int) ∧ ns.length ≤ 63 ∧ (∀ p ∈ tabs,H p = some (.tbl #[])) ∧ ∀ H',Q (.bl true) H'
end L2
namespace Hd
open PySem PySem.W PySem.Spec L2
def isTab (o : Obj) : Bool := match o with
  | ⟨.none,_,.fields _,_⟩ => true
  | _ => false
def strip (K : Frag) : Frag := K.filter fun p => !isTab p.2
theorem nums_mem : ∀ (l : List Obj) (n : Nat) (p : Nat × Obj),p ∈ nums n l → n ≤ p.1 ∧ l[p.1 - n]? = some p.2 ∧ live p.2 = true
  | [],_,_,e => by cases e
  | x :: r,n,p,e => by
    have up : p ∈ nums (n + 1) r → n ≤ p.1 ∧ (x :: r)[p.1 - n]? = some p.2 ∧ live p.2 = true := fun e => by
      obtain ⟨h1,h2,h3⟩ := nums_mem r (n + 1) p e
      refine ⟨by omega,?_,h3⟩
      have : p.1 - n = (p.1 - (n + 1)) + 1 := by omega
      rw [this]
      exact h2
    unfold nums at e
    cases hl : live x with
    | false =>
      rw [hl] at e
      exact up e
    | true =>
      rw [hl,cond_true] at e
      rcases List.mem_cons.mp e with rfl | e
      · exact ⟨Nat.le_refl _,by simp,hl⟩
      · exact up e
theorem frag_mem (h : Heap) : ∀ p ∈ frag h,h.get? p.1 = some p.2 := fun p hp => by
  obtain ⟨_,q,hl⟩ := nums_mem _ _ _ hp
  have q : h.objs[p.1]? = some p.2 := by simpa using q
  unfold Heap.get?
  rw [q]
  obtain ⟨a,o⟩ := p
  obtain ⟨c,d,dt,sl⟩ := o
  cases dt <;> first | rfl | cases hl
theorem look_mem {K : Frag} {b : Addr} {o : Obj} (e : K.lookup b = some o) : (b,o) ∈ K := by
  induction K with
  | nil => cases e
  | cons x r ih =>
    rw [List.lookup_cons] at e
    cases hb : b == x.1 with
    | true =>
      rw [hb] at e
      cases e
      rw [beq_iff_eq.mp hb]
      exact List.mem_cons_self
    | false =>
      rw [hb] at e
      exact List.mem_cons_of_mem _ (ih e)
theorem strip_in {K : Frag} {h : Heap} (k : ∀ p ∈ K,h.get? p.1 = some p.2) : (strip K).In h := fun b o e => k (b,o) (List.mem_filter.mp (look_mem e)).1
theorem strip_tab {K : Frag} {b : Addr} {o : Obj} (e : (strip K).lookup b = some o) : isTab o = false := by
  have := (List.mem_filter.mp (look_mem e)).2
  simpa using this
def hookT {α : Type} (facts : Frag → α) (val : α) : Hook :=
  ⟨α,fun s => facts (frag s.heap),fun _ => val,fun _ h => ∃ K : Frag,(∀ p ∈ K,h.get? p.1 = some p.2) ∧ facts K = val,fun _ s e => ⟨_,frag_mem s.heap,e⟩,fun _ _ _ ⟨K,hi,e⟩ k => ⟨K,fun p hp => k _ _ (hi p hp),e⟩⟩
def tabAt (K : Frag) (x : Str) : Option (Addr × Addr) := match nsIn (strip K) mainGlobals x with
  | some (some (.ref f)) => (match (strip K).lookup f with
    | some ⟨_,_,.func fd,_⟩ => (match fd.code with
      | .ref c => (match (strip K).lookup c with
        | some ⟨.type "code",_,.fields vs,_⟩ => (match (vs[11]? : Option Value),vs.getD 18 .none,vs.getD 7 .none,vs.getD 9 .none,vs.getD 10 .none with
          | some (.ref p),.str _ _,.int _ _,.bool _,.int _ _ => (match K.lookup p with
            | some ⟨.none,none,.fields ps,sl⟩ => bif (ps.toList.isEmpty && (sl.toList.isEmpty && !(Nat.beq c p))) then some (c,p) else none
            | _ => none)
          | _,_,_,_,_ => none)
        | _ => none)
      | _ => none)
    | _ => none)
  | _ => none
def tabFact (K : Frag) (x : Str) : Bool := (tabAt K x).isSome
def tabP (K : Frag) (x : Str) : Addr := match tabAt K x with
  | some q => q.2
  | none => 0
theorem tabAt_spec {K : Frag} {x : Str} {c p : Addr} (e : tabAt K x = some (c,p)) : ∃ f oc od fd sl,nsIn (strip K) mainGlobals x = some (some (.ref f)) ∧ (strip K).lookup f = some ⟨oc,od,.func fd,sl⟩ ∧ fd.code = .ref c ∧ CodeF (strip K) c p ∧ K.lookup p = some (tabObj #[]) := by
  unfold tabAt at e
  split at e
  · rename_i f hf
    split at e
    · rename_i oc od fd sl hl
      split at e
      · rename_i c' hc
        split at e
        · rename_i od2 vs sl2 hl2
          split at e
          · rename_i p' st tt i1 t1 b1 i2 t2 h11 h18 h7 h9 h10
            split at e
            · rename_i ps sl3 hl3
              cases hq : (ps.toList.isEmpty && (sl3.toList.isEmpty && !(Nat.beq c' p'))) with
              | false => rw [hq] at e; cases e
              | true =>
                rw [hq] at e
                simp only [cond_true,Option.some.injEq,Prod.mk.injEq] at e
                obtain ⟨rfl,rfl⟩ := e
                simp only [Bool.and_eq_true,List.isEmpty_iff,Bool.not_eq_true'] at hq
                obtain ⟨q1,q2,q3⟩ := hq
                have q1 : ps = #[] := by simpa using q1
                have q2 : sl3 = #[] := by simpa using q2
                subst q1 q2
                refine ⟨f,oc,od,fd,sl,hf,hl,hc,⟨_,vs,st,tt,i1,t1,b1,i2,t2,hl2,rfl,rfl,h11,?_,h18,h7,h9,h10,?_⟩,hl3⟩
                · rw [Array.getD_eq_getD_getElem?,h11]; rfl
                · intro z
                  rw [z,Nat.beq_refl] at q3
                  cases q3
            · cases e
          · cases e
        · cases e
      · cases e
    · cases e
  · cases e
theorem tab_some {K : Frag} {x : Str} (t : tabFact K x = true) : ∃ c,tabAt K x = some (c,tabP K x) := by
  unfold tabFact at t
  obtain ⟨⟨c,p⟩,e⟩ := Option.isSome_iff_exists.mp t
  refine ⟨c,?_⟩
  unfold tabP
  rw [e]
theorem dft_of {K : Frag} {mg : Str → Option Value} {h : Heap} {x : Str} {st : Stmt} (X : (strip K).In h) (G : h.Ns mainGlobals mg) (e : fnFact (strip K) x = some (defArgs st,defBody st,defScope st,.none)) (t : tabFact K x = true) : DfT (strip K) mg x st (tabP K x) := by
  obtain ⟨f,oc,od,kV,doc,pm,an,cdv,ct,osl,h1,h2,h3,h4⟩ := fnFact_spec e
  obtain ⟨c,ht⟩ := tab_some t
  obtain ⟨f',oc',od',fd',sl',g1,g2,g3,g4,_⟩ := tabAt_spec ht
  rw [h1] at g1
  cases g1
  rw [h2] at g2
  cases g2
  have g3 : cdv = .ref c := g3
  subst g3
  exact ⟨⟨f,oc,od,kV,doc,pm,an,c,ct,osl,PySem.W.mg_of X G h1,h2,h3,h4,g4⟩⟩
def apart : List Addr → Bool
  | [] => true
  | a :: r => (r.all fun b => !(Nat.beq a b)) && apart r
theorem apart_ne : ∀ {l : List Addr},apart l = true → ∀ {i j : Nat} {a b : Addr},l[i]? = some a → l[j]? = some b → i < j → a ≠ b
  | [],_,i,j,a,b,hi,_,_ => by simp at hi
  | x :: r,h,i,j,a,b,hi,hj,lt => by
    unfold apart at h
    rw [Bool.and_eq_true] at h
    cases j with
    | zero => omega
    | succ j =>
      have hj : r[j]? = some b := by simpa using hj
      cases i with
      | zero =>
        have hi : x = a := by simpa using hi
        subst hi
        have := List.all_eq_true.mp h.1 b (List.mem_of_getElem? hj)
        rintro rfl
        rw [Nat.beq_refl] at this
        cases this
      | succ i => exact apart_ne h.2 (i := i) (j := j) (by simpa using hi) hj (by omega)
def bltFact (K : Frag) : Bool := match nsIn K mainGlobals "__builtins__" with
  | some (some (.ref bm)) => (match K.lookup bm with
    | some ⟨.type "module",some d,.plain,_⟩ => !(Nat.beq bm builtinsNs) && (!(Nat.beq bm mainGlobals) && Nat.beq d builtinsNs)
    | _ => false)
  | _ => false
theorem blt_of {K : Frag} {mg : Str → Option Value} {h : Heap} (X : K.In h) (G : h.Ns mainGlobals mg) (t : bltFact K = true) : BltF K mg := by
  unfold bltFact at t
  split at t
  · rename_i bm hb
    split at t
    · rename_i d sl hl
      simp only [Bool.and_eq_true,Bool.not_eq_true'] at t
      obtain ⟨t1,t2,t3⟩ := t
      have t3 := Nat.eq_of_beq_eq_true t3
      subst t3
      refine ⟨bm,_,PySem.W.mg_of X G hb,fun z => ?_,fun z => ?_,hl,rfl,rfl,rfl⟩
      · rw [z,Nat.beq_refl] at t1; cases t1
      · rw [z,Nat.beq_refl] at t2; cases t2
    · cases t
  · cases t
theorem law_walkT {l : OpenLaw} {k : Nat} {q : Program} {loose : List Str} {XP : (Str → Option Value) → Heap → Prop} {d : DefRec} {α : Type} {facts : Frag → α} {val : α} {names : List Str} (hk : Room k callerA) (hn : l.most = some 63) (hdf : d.params.defaults = [])
    (hnm : ∀ K,facts K = val → names.all (tabFact K) = true)
    (F : ∀ (K : Frag),facts K = val → ∀ (w : World) (mg : Str → Option Value) (fa : Addr) (h : Heap),(strip K).In h → h.Ns mainGlobals mg → mg d.name = some (.ref fa) →
      ∃ fd : FuncData,(∀ (s : Shared) (u : Value),BindsTo s fd ⟨[u],[]⟩ [("script",u)]) ∧ ∀ base : Heap,(strip K).In base → base.Ns mainGlobals mg → FnOk l.prog w (strip K) mg base CX0 k fa fd ["script"] (spLawT (strip K) (names.map (tabP K)))) :
    WalkO q loose XP (Hook.says (hookT facts val)) l.row.toRowW d [] (fun f vs => PySem.call f vs) := by
  refine Att.attach_call hn hdf fun w s₀ s₁ mg mb fa o pm cd doc a vs ns G Y ho hd hcd hmg hobj hints hlen hg => ?_
  obtain ⟨K,hin,hf⟩ := Y
  have KX := strip_in hin
  obtain ⟨fd,hb,hF⟩ := F K hf w mg fa _ KX G.T.g hmg
  have ht : ∀ p ∈ names.map (tabP K),∃ c,CodeF (strip K) c p ∧ K.lookup p = some (tabObj #[]) := fun p hp => by
    obtain ⟨x,hx,rfl⟩ := List.mem_map.mp hp
    obtain ⟨c,e⟩ := tab_some (List.all_eq_true.mp (hnm K hf) x hx)
    obtain ⟨_,_,_,_,_,_,_,_,g4,g5⟩ := tabAt_spec e
    exact ⟨c,g4,g5⟩
  refine law_callT (tabs := names.map (tabP K)) KX (fun p hp => ?_) (fun p hp => ?_) (fun p hp => ?_) G.T.g G.T.b G.T.builtins G.T.nolimit hg hobj hints (Nat.le_trans hlen (by decide)) hk hF hb (fun H hS hT => ⟨a,ns,rfl,hS,hlen,hT,fun _ => rfl⟩)
  · cases e : (strip K).lookup p with
    | none => rfl
    | some o =>
      have e1 := hin _ (List.mem_filter.mp (look_mem e)).1
      obtain ⟨c,_,e2⟩ := ht p hp
      have e2 := hin _ (look_mem e2)
      have e1 : s₁.heap.get? p = some o := e1
      have e2 : s₁.heap.get? p = some (tabObj #[]) := e2
      rw [e1] at e2
      cases e2
      cases strip_tab e
  · obtain ⟨c,_,e2⟩ := ht p hp
    exact hin _ (look_mem e2)
  · obtain ⟨c,C,e2⟩ := ht p hp
    exact ((C.hd KX).tab (ps := #[]) (hin _ (look_mem e2))).isCodeTable
end Hd
namespace Hd
open PySem PySem.W PySem.Spec L2
end Hd
local macro_rules | `(tactic| walk_at "bt") => `(tactic| first
  | assumption
  | (apply L2.bits_mul <;> walk_at "bt")
  | (apply L2.bits_add2 <;> walk_at "bt")
  | (apply L2.bits_sub2 <;> walk_at "bt")
  | (apply L2.bits_neg; walk_at "bt")
  | (apply L2.bits_abs; walk_at "bt")
  | exact L2.bits_lit)
local macro_rules | `(tactic| walk_at "bl") => `(tactic| (apply L2.bits_of_le; (walk_at "bt"); decide))
local macro_rules | `(tactic| walk_at "cm") => `(tactic| first
  | exact L2.CM.l ⟨by decide,by decide⟩
  | exact L2.CM.r ⟨by decide,by decide⟩
  | (apply L2.CM.of; (walk_at "bt"); (walk_at "bt"); decide))
local macro_rules | `(tactic| walk_at "at") => `(tactic| first
  | assumption
  | exact L2.upd_same
  | (refine L2.Same.at (by assumption) ?_; walk_at "at")
  | (refine L2.SameT.at (by assumption) ?_; walk_at "at"))
local macro_rules | `(tactic| walk_at "sm") => `(tactic| first
  | assumption
  | exact L2.Same.rfl'
  | (refine L2.Same.trans ?_ (by assumption); walk_at "sm"))
local macro_rules | `(tactic| walk_at "kn") => `(tactic| first
  | assumption
  | exact ⟨_,.int _⟩ | exact ⟨_,.bl _⟩ | exact ⟨_,.str _⟩ | exact ⟨_,.non⟩
  | exact ⟨_,.tup (by walk_at "at")⟩ | exact ⟨_,.lst (by walk_at "at")⟩ | exact ⟨_,.dict (by walk_at "at")⟩)
local macro_rules | `(tactic| walk_at "nice") => `(tactic| first
  | exact L2.nice_int | exact L2.nice_bool | exact L2.nice_tuple | exact L2.nice_list | exact L2.nice_str)
local macro_rules | `(tactic| walk_at "th") => `(tactic| first
  | assumption
  | exact Sp1.th_flat .non (fun p e => nomatch e) | exact Sp1.th_flat (.int _) (fun p e => nomatch e) | exact Sp1.th_flat (.bl _) (fun p e => nomatch e) | exact Sp1.th_flat (.str _) (fun p e => nomatch e)
  | exact Sp1.th_lst (by walk_at "at")
  | (refine' Sp1.th_tup ?hat ?hkn; (case hat => walk_at "at"); (case hkn => (simp only [List.mem_cons,List.not_mem_nil,or_false,forall_eq_or_imp,forall_eq,false_imp_iff,implies_true]; (try (first | (walk_at "kn") | (repeat' apply And.intro) <;> walk_at "kn")))))
  )
local macro_rules | `(tactic| walk_at "r1") => `(tactic| first
  | (refine ⟨_,rfl,?_⟩)
  | (refine ⟨_,_,rfl,rfl,?_⟩)
  | (refine' ⟨_,_,_,_,rfl,rfl,L2.SqT.of ?hat,?hix,?nxt⟩; (case hat => walk_at "at"); (case hix => exact rfl))
  | (refine' ⟨_,_,_,_,rfl,rfl,L2.SqL.of ?hat,?hix,?nxt⟩; (case hat => walk_at "at"); (case hix => exact rfl))
  | (refine ⟨by walk_at "cm",?_⟩)
  | (refine ⟨(by show (0 : Int) < _; decide),?_⟩)
  | (refine ⟨⟨by decide,by decide⟩,?_⟩)
  | (refine ⟨⟨by decide,by decide,by decide⟩,?_⟩)
  | (refine ⟨Sp1.sz (by simp),fun _ _ _ _ _ => ?_⟩)
  | (refine ⟨Sp1.sz (by simp),L2.alloc fun _ _ _ _ => ?_⟩)
  | (refine' ⟨_,_,_,_,rfl,rfl,?hat,?hbt,Sp1.sz ?hsz,fun _ _ _ _ _ => ?nxt⟩; (case hat => walk_at "at"); (case hbt => walk_at "at"); (case hsz => simp))
  | (refine' ⟨_,_,_,_,rfl,rfl,?hat,?hbt,Sp1.sz ?hsz,L2.alloc fun _ _ _ _ => ?nxt⟩; (case hat => walk_at "at"); (case hbt => walk_at "at"); (case hsz => simp))
  | (refine' ⟨_,_,rfl,.inl (L2.SqL.of ?hat),?nxt⟩; (case hat => walk_at "at"))
  | (refine' ⟨_,_,rfl,.inr (L2.SqT.of ?hat),?nxt⟩; (case hat => walk_at "at"))
  | (refine' L2.alloc fun _ _ _ _ => ?nxt))
local macro_rules | `(tactic| walk_at "rd") => `(tactic| repeat (walk_at "r1"))
namespace K35
open PySem PySem.Spec L2 Mth Sp1 Sp2 Sp3 Sp7 Sp24 Dr Wk Fnc Sk
def top (i : Nat) : Stmt := PySem.Challenge.pw_oneleash_k35_whole_papers_of_hops.main.body.getD i (.Pass ⟨0,0,0,0⟩)
def hNames0 : List (Str × Nat) := [(Str.ofString "is_whole",4),(Str.ofString "common_divisor",5),(Str.ofString "is_ratio",6),(Str.ofString "last_of",8),(Str.ofString "hops_aside",10),(Str.ofString "sign_of",12),(Str.ofString "look_at_square",14),(Str.ofString "leash_order",15),(Str.ofString "far_corners",17),(Str.ofString "begins_fence",18),(Str.ofString "ends_fence",19),(Str.ofString "pair_at_corner",20),(Str.ofString "row_to",22),(Str.ofString "seek",23),(Str.ofString "steps_on",25),(Str.ofString "hops_walk",26),(Str.ofString "steps_aside",27),(Str.ofString "hops_fence",28),(Str.ofString "go_hops",29),(Str.ofString "_law_cell_at",31),(Str.ofString "_law_folded",32),(Str.ofString "_law_begun",33),(Str.ofString "_law_take",34),(Str.ofString "_law_wide",35),(Str.ofString "_law_drawn_line",36),(Str.ofString "_law_moved",37),(Str.ofString "_law_drawn_other",38),(Str.ofString "_law_lines",39),(Str.ofString "_law_divisor",40),(Str.ofString "_law_ratio",41),(Str.ofString "_law_below",42),(Str.ofString "_law_whole",43),(Str.ofString "_law_is_ratio",44),(Str.ofString "_law_is_place",45),(Str.ofString "_law_near",46),(Str.ofString "_law_are_pairs",47),(Str.ofString "_law_goes",48),(Str.ofString "_law_is_walk",49),(Str.ofString "_law_back",50),(Str.ofString "_law_steps",51),(Str.ofString "_law_is_fence",52),(Str.ofString "_law_point_at",53),(Str.ofString "_law_square_of",54),(Str.ofString "_law_apart",55),(Str.ofString "_law_drawn_leash",56),(Str.ofString "_law_walk_square",57),(Str.ofString "_law_shown",58),(Str.ofString "law",59)]
def hNamesD : List (Str × Nat × List V) := []
def hExc : List Str := [Str.ofString "NoSquare"]
def hNo : List Str := [Str.ofString "abs",Str.ofString "all",Str.ofString "bool",Str.ofString "enumerate",Str.ofString "int",Str.ofString "isinstance",Str.ofString "len",Str.ofString "list",Str.ofString "max",Str.ofString "min",Str.ofString "range",Str.ofString "reversed",Str.ofString "str",Str.ofString "tuple",Str.ofString "zip"]
def hTup : List (Str × List V) := []
def hTabs : List Str := [Str.ofString "hops_walk",Str.ofString "hops_fence"]
def hF0 (K : PySem.W.Frag) : List (Option (Arguments × List Stmt × Scope × Value)) := hNames0.map (fun p => Hd.fnFact K p.1)
def hG0 : List (Option (Arguments × List Stmt × Scope × Value)) := hNames0.map (fun p => some (defArgs (top p.2),defBody (top p.2),defScope (top p.2),.none))
def hF1 (K : PySem.W.Frag) : List (Option (Arguments × List Stmt × Scope × List V)) × Bool × Bool × List (Option (List V)) := (hNamesD.map (fun p => Hd.fnFactD K p.1),hExc.all (Hd.excFact K),hNo.all (Hd.noFact K),hTup.map (fun p => Hd.tupFact K p.1))
def hG1 : List (Option (Arguments × List Stmt × Scope × List V)) × Bool × Bool × List (Option (List V)) := (hNamesD.map (fun p => some (defArgs (top p.2.1),defBody (top p.2.1),defScope (top p.2.1),p.2.2)),true,true,hTup.map (fun p => some p.2))
def hF2 (K0 : PySem.W.Frag) : Bool × Bool × Bool := (hTabs.all (Hd.tabFact K0),Hd.bltFact (Hd.strip K0),Hd.apart (hTabs.map (Hd.tabP K0)))
def hG2 : Bool × Bool × Bool := (true,true,true)
def hFacts (K : PySem.W.Frag) : (List (Option (Arguments × List Stmt × Scope × Value))) × (List (Option (Arguments × List Stmt × Scope × List V)) × Bool × Bool × List (Option (List V))) × (Bool × Bool × Bool) := (hF0 (Hd.strip (K)),hF1 (Hd.strip (K)),hF2 (K))
def hGood : (List (Option (Arguments × List Stmt × Scope × Value))) × (List (Option (Arguments × List Stmt × Scope × List V)) × Bool × Bool × List (Option (List V))) × (Bool × Bool × Bool) := (hG0,hG1,hG2)
def hView : Program := PySem.W.view PySem.Challenge.pw_oneleash_k35_whole_papers_of_hops [59]
def hLoose : List Str := [Str.ofString "LeashError",Str.ofString "NoSquare",Str.ofString "is_whole",Str.ofString "common_divisor",Str.ofString "is_ratio",Str.ofString "last_of",Str.ofString "hops_aside",Str.ofString "sign_of",Str.ofString "look_at_square",Str.ofString "leash_order",Str.ofString "far_corners",Str.ofString "begins_fence",Str.ofString "ends_fence",Str.ofString "pair_at_corner",Str.ofString "row_to",Str.ofString "seek",Str.ofString "steps_on",Str.ofString "hops_walk",Str.ofString "steps_aside",Str.ofString "hops_fence",Str.ofString "go_hops",Str.ofString "_law_cell_at",Str.ofString "_law_folded",Str.ofString "_law_begun",Str.ofString "_law_take",Str.ofString "_law_wide",Str.ofString "_law_drawn_line",Str.ofString "_law_moved",Str.ofString "_law_drawn_other",Str.ofString "_law_lines",Str.ofString "_law_divisor",Str.ofString "_law_ratio",Str.ofString "_law_below",Str.ofString "_law_whole",Str.ofString "_law_is_ratio",Str.ofString "_law_is_place",Str.ofString "_law_near",Str.ofString "_law_are_pairs",Str.ofString "_law_goes",Str.ofString "_law_is_walk",Str.ofString "_law_back",Str.ofString "_law_steps",Str.ofString "_law_is_fence",Str.ofString "_law_point_at",Str.ofString "_law_square_of",Str.ofString "_law_apart",Str.ofString "_law_drawn_leash",Str.ofString "_law_walk_square",Str.ofString "_law_shown"]
noncomputable def hRunS (w : World) := (PySem.W.openEnds treeTable PySem.Challenge.pw_oneleash_k35_whole_papers_of_hops w 100000).map (fun s => (PySem.W.openSeen hView hLoose (importedModules PySem.Challenge.pw_oneleash_k35_whole_papers_of_hops.main.body) (fun _ => true) true s,hF1 (Hd.strip (Hd.frag s.heap)),hF2 (Hd.frag s.heap)))
noncomputable def hEndS := some (PySem.W.openGood hView hLoose,hG1,hG2)
theorem hRunS_self : @hRunS = @hRunS := rfl
theorem hEndS_self : @hEndS = @hEndS := rfl
set_option maxHeartbeats 0 in
lay_quick K35.hRunS K35.hEndS
name_quick hRunSQ for K35.hRunS by K35.hRunS_self
name_quick hEndSQ for K35.hEndS by K35.hEndS_self
set_option maxHeartbeats 0 in
theorem hQuickS (w : World) : PySem.W.Fast.hRunSQ w = PySem.W.Fast.hEndSQ := by kernel_rfl
theorem hOneS (w : World) : hRunS w = hEndS := (congrFun PySem.W.Fast.hRunSQ_eq w).trans ((hQuickS w).trans PySem.W.Fast.hEndSQ_eq.symm)
noncomputable def hRun0 (w : World) := (PySem.W.openEnds treeTable PySem.Challenge.pw_oneleash_k35_whole_papers_of_hops w 100000).map (fun s => hF0 (Hd.strip (Hd.frag s.heap)))
noncomputable def hEnd0 := some (hG0)
theorem hRun0_self : @hRun0 = @hRun0 := rfl
theorem hEnd0_self : @hEnd0 = @hEnd0 := rfl
set_option maxHeartbeats 0 in
lay_quick K35.hRun0 K35.hEnd0
name_quick hRun0Q for K35.hRun0 by K35.hRun0_self
name_quick hEnd0Q for K35.hEnd0 by K35.hEnd0_self
set_option maxHeartbeats 0 in
theorem hQuick0 (w : World) : PySem.W.Fast.hRun0Q w = PySem.W.Fast.hEnd0Q := by kernel_rfl
theorem hOne0 (w : World) : hRun0 w = hEnd0 := (congrFun PySem.W.Fast.hRun0Q_eq w).trans ((hQuick0 w).trans PySem.W.Fast.hEnd0Q_eq.symm)
theorem hAll (w : World) : (PySem.W.openEnds treeTable PySem.Challenge.pw_oneleash_k35_whole_papers_of_hops w 100000).map (fun s => (PySem.W.openSeen hView hLoose (importedModules PySem.Challenge.pw_oneleash_k35_whole_papers_of_hops.main.body) (fun _ => true) true s,hFacts (Hd.frag s.heap))) = some (PySem.W.openGood hView hLoose,hGood) := by
  have rS : (PySem.W.openEnds treeTable PySem.Challenge.pw_oneleash_k35_whole_papers_of_hops w 100000).map (fun s => (PySem.W.openSeen hView hLoose (importedModules PySem.Challenge.pw_oneleash_k35_whole_papers_of_hops.main.body) (fun _ => true) true s,hF1 (Hd.strip (Hd.frag s.heap)),hF2 (Hd.frag s.heap))) = some (PySem.W.openGood hView hLoose,hG1,hG2) := hOneS w
  have r0 : (PySem.W.openEnds treeTable PySem.Challenge.pw_oneleash_k35_whole_papers_of_hops w 100000).map (fun s => hF0 (Hd.strip (Hd.frag s.heap))) = some (hG0) := hOne0 w
  skip
  generalize (PySem.W.openEnds treeTable PySem.Challenge.pw_oneleash_k35_whole_papers_of_hops w 100000) = x at *
  cases x with
  | none => cases rS
  | some s =>
    have qS := Option.some.inj rS
    have q0 := Option.some.inj r0
    show some (PySem.W.openSeen hView hLoose (importedModules PySem.Challenge.pw_oneleash_k35_whole_papers_of_hops.main.body) (fun _ => true) true s,hFacts (Hd.frag s.heap)) = _
    unfold hFacts hGood
    have z := congrArg Prod.fst qS
    have q1 := (congrArg Prod.fst (congrArg Prod.snd qS))
    have q2 := (congrArg Prod.snd (congrArg Prod.snd qS))
    exact congrArg some (Hd.pair2 z (Hd.pair2 q0 (Hd.pair2 q1 q2)))
structure Txt (mg : Str → Option Value) : Prop where
  z_abs : mg "abs" = none
  z_all : mg "all" = none
  z_bool : mg "bool" = none
  z_enumerate : mg "enumerate" = none
  z_int : mg "int" = none
  z_isinstance : mg "isinstance" = none
  z_len : mg "len" = none
  z_list : mg "list" = none
  z_max : mg "max" = none
  z_min : mg "min" = none
  z_range : mg "range" = none
  z_reversed : mg "reversed" = none
  z_str : mg "str" = none
  z_tuple : mg "tuple" = none
  z_zip : mg "zip" = none
section
variable {P : Program} {w : World} {K : PySem.W.Frag} {mg : Str → Option Value} {base : Heap}
theorem len1 {α : Type} {xs : List α} (h : xs.length = 1) : ∃ a,xs = [a] := match xs,h with | [a],_ => ⟨a,rfl⟩
theorem S_is_whole : FnScope ["thing"] ["thing"] (defScope (top 4)) := ⟨rfl,rfl,rfl,by decide +kernel,rfl,by decide +kernel,by decide +kernel⟩
theorem fn_is_whole (D_is_whole : Df K mg "is_whole" (top 4)) (T : Txt mg) : Fn P w K mg base "is_whole" ["thing"] 1 spWhole := by
  refine D_is_whole.fn S_is_whole (fun _ _ _ _ _ _ us hl => by obtain ⟨_,rfl⟩ := len1 hl; rfl) (fun vs H Q E h => ?_) (fun f cdv A outer s H vs Q E hr h => ?_)
  · obtain ⟨x,t,rfl,_⟩ := h
    rfl
  · obtain ⟨x,t,rfl,k,q⟩ := h
    refine ⟨_,(pss_one (ps_ret (pe_and (pe_callB call_isinst (by rfl) T.z_isinstance bt_isinstance (pa_cons (pv 0) (pa_cons (pe_ty T.z_int bt_int) pa_nil))) (pe_one (pe_not (pe_callB call_isinst (by rfl) T.z_isinstance bt_isinstance (pa_cons (pv 0) (pa_cons (pe_ty T.z_bool bt_bool) pa_nil)))))))),?_⟩
    refine ⟨_,rfl,x,t,"int",rfl,k,.inl rfl,_,rfl,?_⟩
    refine ite3 (fun hc => ?_) (fun hc => ?_)
    · refine ⟨_,rfl,x,t,"bool",rfl,k,.inr (.inl rfl),_,rfl,?_⟩
      rw [(whole_sub k).1 hc]
      exact q
    · rw [(whole_sub k).2 hc] at q
      exact q
theorem S_common_divisor : FnScope ["one","other","rest"] ["one","other"] (defScope (top 5)) := ⟨rfl,rfl,rfl,by decide +kernel,rfl,by decide +kernel,by decide +kernel⟩
theorem fn_common_divisor (D_common_divisor : Df K mg "common_divisor" (top 5)) (T : Txt mg) : Fn P w K mg base "common_divisor" ["one","other"] 1 spGcd := by
  refine D_common_divisor.fn S_common_divisor (fun _ _ _ _ _ _ us hl => by obtain ⟨_,_,rfl⟩ := len2 hl; rfl) (fun vs H Q E h => ?_) (fun f cdv A outer s H vs Q E hr h => ?_)
  · obtain ⟨a,b,rfl,_⟩ := h
    rfl
  · obtain ⟨a,b,rfl,q⟩ := h
    refine ⟨_,(pss_cons (ps_set (i := 0) S_common_divisor.nd rfl (Or.inl rfl) (pe_callB call_abs (by rfl) T.z_abs bt_abs (pa_cons (pv 0) pa_nil))) (pss_cons (ps_set (i := 1) S_common_divisor.nd rfl (Or.inl rfl) (pe_callB call_abs (by rfl) T.z_abs bt_abs (pa_cons (pv 1) pa_nil))) (pss_cons (ps_while PassesOwn.never (pt_cmpR op_ne (pv 1) pe_int (nomark _)) (pss_cons (ps_set (i := 2) S_common_divisor.nd rfl (Or.inl rfl) (pe_op op_mod (pv 0) (pv 1))) (pss_cons (ps_set (i := 0) S_common_divisor.nd rfl (Or.inl rfl) (pv 1)) (pss_one (ps_set (i := 1) S_common_divisor.nd rfl (Or.inl rfl) (pv 2)))))) (pss_one (ps_ret (pv 0)))))),?_⟩
    refine ⟨_,rfl,a,rfl,_,rfl,b,rfl,?_⟩
    refine while_by (fun σ H' => ∃ x y r,σ = [some (.int x),some (.int y),r] ∧ H' = H ∧ 0 ≤ x ∧ 0 ≤ y ∧ Int.gcd x y = Int.gcd a b)
      (fun σ _ => match σ with | [_,some (.int y),_] => y.toNat | _ => 0) ⟨_,_,_,rfl,rfl,abs_nonneg a,abs_nonneg b,by rw [gcd_abs,gcd_abs']⟩ ?_ ?_
    · rintro σ H' ⟨x,y,r,rfl,rfl,hx,hy,hg⟩
      refine ⟨_,rfl,rfl,_,rfl,?_⟩
      refine ite3 (fun hc => ?_) (fun hc => ?_)
      · have hy0 : ¬ y = 0 := by simpa using hc
        have hy1 : 0 < y := by omega
        refine ⟨_,rfl,_,rfl,x,y,rfl,rfl,hy1,_,rfl,_,rfl,⟨y,x % y,_,rfl,rfl,hy,Int.emod_nonneg _ hy0,?_⟩,?_⟩
        · rw [gcd_step hx hy1]
          exact hg
        · have h1 := Int.emod_lt_of_pos x hy1
          have h2 := Int.emod_nonneg x hy0
          show (x % y).toNat < y.toNat
          omega
      · have hy0 : y = 0 := by simpa using hc
        subst hy0
        refine ⟨_,rfl,?_⟩
        have e : (Int.gcd a b : Int) = x := by rw [← hg]; exact gcd_zero hx
        rw [e] at q
        exact q
    · rintro σ H' Q1 Q2 hq ⟨v,e,hs,k,ek,r⟩
      exact ⟨v,e,hs,k,ek,hq _ _ r⟩
theorem S_is_ratio : FnScope ["thing"] ["thing"] (defScope (top 6)) := ⟨rfl,rfl,rfl,by decide +kernel,rfl,by decide +kernel,by decide +kernel⟩
theorem fn_is_ratio (D_is_ratio : Df K mg "is_ratio" (top 6)) (F_is_whole : Fn P w K mg base "is_whole" ["thing"] 1 spWhole) (F_common_divisor : Fn P w K mg base "common_divisor" ["one","other"] 1 spGcd) (T : Txt mg) : Fn P w K mg base "is_ratio" ["thing"] 2 spLow := by
  refine D_is_ratio.fn S_is_ratio (fun _ _ _ _ _ _ us hl => by obtain ⟨_,rfl⟩ := len1 hl; rfl) (fun vs H Q E h => ?_) (fun f cdv A outer s H vs Q E hr h => ?_)
  · obtain ⟨x,rfl,_⟩ := h
    rfl
  · obtain ⟨x,rfl,th,q⟩ := h
    obtain ⟨t,k⟩ := th.kn
    refine ⟨_,(pss_cons (ps_if (pw_or (pt_not (pt_val (pe_callB call_isinst (by rfl) T.z_isinstance bt_isinstance (pa_cons (pv 0) (pa_cons (pe_ty T.z_tuple bt_tuple) pa_nil))))) (pw_or1 (pt_cmpR op_ne (pe_callB call_len_seq (by rfl) T.z_len bt_len (pa_cons (pv 0) pa_nil)) pe_int (nomark _)))).pt (pss_one (ps_ret pe_bl)) pss_nil) (pss_cons (ps_if (pw_or (pt_not (pt_val (pe_fn F_is_whole (hr.mono (by decide)) (by rfl) (pa_cons (pe_ix ix_tup (pv 0) pe_int (fun _ _ => rfl)) pa_nil)))) (pw_or1 (pt_not (pt_val (pe_fn F_is_whole (hr.mono (by decide)) (by rfl) (pa_cons (pe_ix ix_tup (pv 0) pe_int (fun _ _ => rfl)) pa_nil)))))).pt (pss_one (ps_ret pe_bl)) pss_nil) (pss_one (ps_ret (pe_and (pe_cmpR op_ge (pe_ix ix_tup (pv 0) pe_int (fun _ _ => rfl)) pe_int (nomark _)) (pe_one (pe_cmpR op_eq (pe_fn F_common_divisor (hr.mono (by decide)) (by rfl) (pa_cons (pe_ix ix_tup (pv 0) pe_int (fun _ _ => rfl)) (pa_cons (pe_ix ix_tup (pv 0) pe_int (fun _ _ => rfl)) pa_nil))) pe_int (nomark _)))))))),?_⟩
    refine ⟨_,rfl,x,t,"tuple",rfl,k,.inr (.inr (.inl rfl)),_,rfl,?_⟩
    rcases Kn.cases_tup k with ⟨p,xs,rfl,e,rfl⟩ | ⟨hl,hs⟩
    · -- a tuple
      rw [lowV_tup e] at q
      refine iteF ?_
      refine ⟨_,rfl,p,xs,rfl,.inr (SqT.of e),rfl,_,rfl,?_⟩
      refine ite3 (fun hc => ?_) (fun hc => ?_)
      · have hn : xs.length ≠ 2 := by
          intro z
          rw [z] at hc
          exact absurd hc (by decide)
        rw [lowL_len hn] at q
        exact q
      · have hn : xs.length = 2 := by
          have z : (xs.length : Int) = 2 := by simpa using hc
          omega
        match xs,hn,e,q with
        | [y,z],_,e,q =>
          obtain ⟨ty,ky⟩ := th.parts p _ rfl e y (by simp)
          obtain ⟨tz,kz⟩ := th.parts p _ rfl e z (by simp)
          refine ⟨_,rfl,p,_,_,_,rfl,rfl,SqT.of e,rfl,y,ty,rfl,ky,_,rfl,?_⟩
          rcases Kn.cases_int ky with ⟨a,rfl,rfl⟩ | ⟨ny,ey⟩
          · refine iteF ?_
            refine ⟨_,rfl,p,_,_,_,rfl,rfl,SqT.of e,rfl,z,tz,rfl,kz,_,rfl,?_⟩
            rcases Kn.cases_int kz with ⟨b,rfl,rfl⟩ | ⟨nz,ez⟩
            · refine iteF ?_
              refine ⟨_,rfl,p,_,_,_,rfl,rfl,SqT.of e,rfl,b,1,rfl,rfl,_,rfl,?_⟩
              have q' : Q (.bl (lowB a b)) H := q
              unfold lowB at q'
              refine ite3 (fun hc => ?_) (fun hc => ?_)
              · refine ⟨_,rfl,p,_,_,_,rfl,rfl,SqT.of e,rfl,_,rfl,p,_,_,_,rfl,rfl,SqT.of e,rfl,a,b,rfl,rfl,?_⟩
                rw [hc,Bool.true_and] at q'
                have e1 : decide (V.int (Int.gcd a b : Int) = V.int 1) = decide (Int.gcd a b = 1) := by
                  rw [Bool.eq_iff_iff]
                  simp
                  omega
                rw [← e1] at q'
                exact q'
              · rw [hc,Bool.false_and] at q'
                exact q'
            · rw [ez,lowL_snd nz] at *
              exact q
          · rw [ey,lowL_fst ny] at *
            exact q
    · rw [hs]
      rw [hl] at q
      exact q
theorem S_last_of : FnScope ["line"] ["line"] (defScope (top 8)) := ⟨rfl,rfl,rfl,by decide +kernel,rfl,by decide +kernel,by decide +kernel⟩
theorem fn_last_of (D_last_of : Df K mg "last_of" (top 8)) (T : Txt mg) : Fn P w K mg base "last_of" ["line"] 1 spLast := by
  refine D_last_of.fn S_last_of (fun _ _ _ _ _ _ us hl => by obtain ⟨_,rfl⟩ := len1 hl; rfl) (fun vs H Q E h => ?_) (fun f cdv A outer s H vs Q E hr h => ?_)
  · obtain ⟨p,xs,rfl,_⟩ := h
    rfl
  · obtain ⟨p,xs,rfl,e,q⟩ := h
    exact ⟨_,(pss_one (ps_ret (pe_op op_sub (pe_callB call_len_seq (by rfl) T.z_len bt_len (pa_cons (pv 0) pa_nil)) pe_int))),_,rfl,p,xs,rfl,.inl (SqL.of e),_,_,rfl,rfl,q⟩
theorem S_row_to : FnScope ["came","spot","row","ahead"] ["came","spot"] (defScope (top 22)) := ⟨rfl,rfl,rfl,by decide +kernel,rfl,by decide +kernel,by decide +kernel⟩
theorem fn_row_to (D_row_to : Df K mg "row_to" (top 22)) (T : Txt mg) : Fn P w K mg base "row_to" ["came","spot"] 1 spRowTo := by
  refine D_row_to.fn S_row_to (fun _ _ _ _ _ _ us hl => by obtain ⟨_,_,rfl⟩ := len2 hl; rfl) (fun vs H Q E h => ?_) (fun f cdv A outer s H vs Q E hr h => ?_)
  · obtain ⟨d,sv,es,i,e,rfl,_⟩ := h
    rfl
  · obtain ⟨d,sv,es,i,e,rfl,cm,tr,he,hsv,hl,q⟩ := h
    refine ⟨_,(pss_cons (ps_set (i := 2) S_row_to.nd rfl (Or.inl rfl) (pe_lstA pa_nil)) (pss_cons (ps_while PassesOwn.never (pt_cmpR op_notN (pv 1) pe_non (nomark _)) (pss_cons (ps_set (i := 3) S_row_to.nd rfl (Or.inl rfl) (pe_dget (hu_of hr) (pv 0) (pv 1) (fun _ _ => rfl))) (pss_cons (ps_expr (pe_bm PySem.F.plainAttrs_list PySem.F.slot_list_append PySem.F.type_list_append mt_appendA (pv 2) (pa_cons (pe_tupA (pa_cons (pv 1) (pa_cons (pe_ix ix_tup (pv 3) pe_int (fun _ _ => rfl)) pa_nil))) pa_nil))) (pss_one (ps_set (i := 1) S_row_to.nd rfl (Or.inl rfl) (pe_ix ix_tup (pv 3) pe_int (fun _ _ => rfl))))))) (pss_cons (ps_expr (pe_bm0 PySem.F.plainAttrs_list PySem.F.slot_list_reverse PySem.F.type_list_reverse mt_reverseA (pv 2))) (pss_one (ps_ret (pv 2)))))),?_⟩
    refine ⟨sz (by simp),fun r H1 s1 f1 n1 => ?_⟩
    have CM' : ∀ {H' : Hp},Same H H' → ∃ kvs,H' d = some (.dT kvs) ∧ Paired (Ent H' es) es kvs := fun {H'} s' => by
      obtain ⟨kvs,e1,e2⟩ := cm
      exact ⟨kvs,s' _ _ e1,Paired.mapP e2 fun a b x => x.mono s'.t fun _ _ h => h⟩
    refine while_by (fun σ H' => ∃ (cur : Option Nat) (cv : V) (done : List (Spot × V)) (vs : List V) (av : Option V),σ = [some (.ref d),some cv,some (.ref r),av] ∧ Same H H' ∧ H' r = some (.lst vs) ∧ Paired (fun (e : Spot × V) v => ∃ t sv,v = .ref t ∧ H' t = some (.tup [sv,e.2]) ∧ SpotAt H' sv e.1) done vs ∧ Left es cur i done ∧
        (cur = none → cv = .non) ∧ (∀ j,cur = some j → ∃ e,es[j]? = some e ∧ SpotAt H' cv e.1 ∧ done.length + j + 1 ≤ es.length) ∧ done.length ≤ es.length)
      (fun _ H' => match H' r with | some (.lst vs) => es.length - vs.length | _ => 0) ⟨some i,sv,[],[],_,rfl,s1,f1,.nil,Left.begin,(fun z => nomatch z),(fun j z => by cases z; exact ⟨e,he,hsv.mono s1.t,by have := (List.getElem?_eq_some_iff.mp he).1; simp; omega⟩),Nat.zero_le _⟩ ?_ ?_
    · rintro σ H2 ⟨cur,cv,done,vs,av,rfl,s2,f2,pr,lf,c0,c1,dl⟩
      refine ⟨_,rfl,rfl,_,rfl,?_⟩
      cases cur with
      | none =>
        rw [c0 rfl]
        refine iteF ?_
        refine ⟨_,rfl,.inl ⟨rfl,_,SqL.of f2⟩,r,_,rfl,rfl,f2,fun H3 u => ?_⟩
        refine ⟨_,rfl,?_⟩
        have s3 : Same H H3 := fun b o eb => u.at (fun z => by rw [z,n1] at eb; cases eb) (s2 b o eb)
        refine q r H3 done.reverse s3 (by simpa using lf [] rfl) (by simpa using dl) ⟨_,u.now,?_⟩
        exact paired_rev (Paired.mapP pr fun a b ⟨t,sv,x1,x2,x3⟩ => ⟨t,sv,x1,u.t _ _ x2,x3.mono u.t⟩)
      | some j =>
        obtain ⟨e,he,hs,hj⟩ := c1 j rfl
        obtain ⟨p,rfl,hp⟩ := hs
        refine iteT ?_
        obtain ⟨kvs,kd,kp⟩ := CM' s2
        obtain ⟨kv,hkv,ke,t,pv,kt,ht,h0,h1⟩ := paired_get kp j e he
        have nd : (kvs.map (·.1)).Nodup := by rw [keys_eq kp]; exact tr.nd
        have vv := valV_at nd hkv
        rw [ke,kt] at vv
        have dg := DGet.t kd hp
        rw [vv] at dg
        refine ⟨_,rfl,_,rfl,d,_,rfl,dg,?_⟩
        refine ⟨_,rfl,.inl ⟨rfl,_,SqL.of f2⟩,_,rfl,_,rfl,t,_,_,_,rfl,rfl,SqT.of ht,rfl,sz (by simp),fun x H3 s3 f3 n3 => ?_⟩
        have lv := Paired.length pr
        refine ⟨r,_,_,rfl,rfl,s3 _ _ f2,small1000 (by omega),fun H4 u => ?_⟩
        have s4 : Same H H4 := fun b o eb => u.at (fun z => by rw [z,n1] at eb; cases eb) (s3 _ _ (s2 b o eb))
        have t4 := s3.t.trans u.t
        refine ⟨_,rfl,t,_,_,_,rfl,rfl,SqT.of (t4 _ _ ht),rfl,?_⟩
        refine ⟨⟨e.2.1,pv,done ++ [(e.1,e.2.2)],_,_,rfl,s4,u.now,Paired.snoc (Paired.mapP pr fun a b ⟨t,sv,x1,x2,x3⟩ => ⟨t,sv,x1,t4 _ _ x2,x3.mono t4⟩) ⟨x,.ref p,rfl,u.t _ _ f3,p,rfl,t4 _ _ hp⟩,lf.up he,h0,fun j' hj' => ?_,?_⟩,?_⟩
        · obtain ⟨e',g1,g2⟩ := h1 j' hj'
          have := tr.up j e j' he hj'
          refine ⟨e',g1,g2.mono t4,?_⟩
          rw [List.length_append,List.length_singleton]
          omega
        · rw [List.length_append,List.length_singleton]
          omega
        · show (match H4 r with | some (.lst vs) => es.length - vs.length | _ => 0) < (match H2 r with | some (.lst vs) => es.length - vs.length | _ => 0)
          rw [u.now,f2]
          show es.length - (vs ++ [V.ref x]).length < es.length - vs.length
          rw [List.length_append,List.length_singleton]
          omega
    · rintro σ H' Q1 Q2 hq ⟨v,e,hs,k,ek,r⟩
      exact ⟨v,e,hs,k,ek,hq _ _ r⟩
theorem S_seek : FnScope ["begins","steps_from","is_end","came","spot","row","number","step"] ["begins","steps_from","is_end"] (defScope (top 23)) := ⟨rfl,rfl,rfl,by decide +kernel,rfl,by decide +kernel,by decide +kernel⟩
theorem fn_seek (D_seek : Df K mg "seek" (top 23)) (F_row_to : Fn P w K mg base "row_to" ["came","spot"] 1 spRowTo) (T : Txt mg) : Fn P w K mg base "seek" ["begins","steps_from","is_end"] 5 (spSeek P w K mg base 3) := by
  refine D_seek.fn S_seek (fun _ _ _ _ _ _ us hl => by obtain ⟨_,_,_,rfl⟩ := len3 hl; rfl) (fun vs H Q E h => ?_) (fun f cdv A outer s H vs Q E hr h => ?_)
  · obtain ⟨b,f1,f2,bvs,bs,U,stp,fin,rfl,_⟩ := h
    rfl
  · obtain ⟨b,f1,f2,bvs,bs,U,stp,fin,rfl,hb,pb,nd,hU,hul,F,q0,q1⟩ := h
    refine ⟨_,(pss_cons (ps_set (i := 3) S_seek.nd rfl (Or.inl rfl) pe_dnewT) (pss_cons (ps_for PassesOwn.never rfl (pi_list (pv 0)) (pg_name (i := 4) S_seek.nd rfl (Or.inl rfl)) (pss_one (ps_dput (hu_of hr) (pv 3) (pv 4) (pe_tupA (pa_cons pe_non (pa_cons pe_non pa_nil))) rfl))) (pss_cons (ps_set (i := 5) S_seek.nd rfl (Or.inl rfl) (pe_callTy call_list_ofA (by rfl) T.z_list bt_list (pa_cons (pv 0) pa_nil))) (pss_cons (ps_set (i := 6) S_seek.nd rfl (Or.inl rfl) pe_int) (pss_cons (ps_while PassesOwn.never (pt_cmpR op_lt (pv 6) (pe_callB call_len_seq (by rfl) T.z_len bt_len (pa_cons (pv 5) pa_nil)) (nomark _)) (pss_cons (ps_set (i := 4) S_seek.nd rfl (Or.inl rfl) (pe_ix ix_list (pv 5) (pv 6) (fun _ _ => rfl))) (pss_cons (ps_if (pt_val (pe_callV (k := 3) (i := 2) (hr.mono (by decide)) rfl (Or.inl rfl) (pa_cons (pv 4) pa_nil))) (pss_one (ps_ret (pe_fn F_row_to (hr.mono (by decide)) (by rfl) (pa_cons (pv 3) (pa_cons (pv 4) pa_nil))))) pss_nil) (pss_cons (ps_for PassesOwn.never rfl (pi_list (pe_callV (k := 3) (i := 1) (hr.mono (by decide)) rfl (Or.inl rfl) (pa_cons (pv 4) pa_nil))) (pg_name (i := 7) S_seek.nd rfl (Or.inl rfl)) (pss_one (ps_if (pt_cmp (pc_dnotin (hu_of hr) (pe_ix ix_tup (pv 7) pe_int (fun _ _ => rfl)) (pv 3)) (by rfl)) (pss_cons (ps_dput (hu_of hr) (pv 3) (pe_ix ix_tup (pv 7) pe_int (fun _ _ => rfl)) (pe_tupA (pa_cons (pv 4) (pa_cons (pe_ix ix_tup (pv 7) pe_int (fun _ _ => rfl)) pa_nil))) rfl) (pss_one (ps_expr (pe_bm PySem.F.plainAttrs_list PySem.F.slot_list_append PySem.F.type_list_append mt_appendA (pv 5) (pa_cons (pe_ix ix_tup (pv 7) pe_int (fun _ _ => rfl)) pa_nil))))) pss_nil))) (pss_one (ps_aug (i := 6) S_seek.nd rfl (Or.inl rfl) pe_int ip_add)))))) (pss_one (ps_ret pe_non))))))),?_⟩
    obtain ⟨sp1,i1,c1⟩ := F.c1
    obtain ⟨sp2,i2,c2⟩ := F.c2
    have FO : ∀ {f : Addr} {H' : Hp},FObj H f → Same H H' → FObj H' f := fun {f H'} ⟨o,fd,e,d⟩ s => ⟨o,fd,s _ _ e,d⟩
    have bl := Paired.length pb
    refine fun d hd => ?_
    have s1 : Same H (upd H d (.dT [])) := Same.new hd
    refine ⟨_,rfl,b,rfl,⟨_,SqL.of (s1 _ _ hb)⟩,for_list (K := K) (xs := bvs) (fun i σ H' => ∃ spv,σ = [some (.ref b),some (.ref f1),some (.ref f2),some (.ref d),spv,none,none,none] ∧ Same H H' ∧ Came H' d ((bs.take i).map fun s => (s,none,.non))) ⟨_,rfl,s1,[],upd_same,.nil⟩ ?_ ?_ ?_⟩
    · rintro i σ H' hi ⟨spv,rfl,s',_⟩
      exact SqL.of (s' _ _ hb)
    · rintro i x σ H' hx ⟨spv,rfl,s',cm⟩
      obtain ⟨s,hs,p,rfl,hp⟩ := paired_get' pb i x hx
      refine ⟨sz (by simp),fun t H2 s2 f2 n2 => ⟨_,rfl,_,rfl,?_⟩⟩
      have hns : s ∉ (((bs.take i).map fun s => ((s,none,.non) : En)).map (·.1)) := by
        rw [List.map_map]
        show s ∉ (bs.take i).map id
        rw [List.map_id]
        intro z
        obtain ⟨j,hj⟩ := List.getElem?_of_mem z
        have ⟨j1,j2⟩ := List.getElem?_eq_some_iff.mp hj
        rw [List.length_take] at j1
        rw [List.getElem?_take_of_lt (by omega)] at hj
        have := nodup_idx nd hs hj
        omega
      have hlb := nodup_len nd hU
      obtain ⟨H3,dp,cm3,t3,o3⟩ := (cm.mono s2).add (s := s) (pj := none) (s2 _ _ (s' _ _ hp)) f2 hns (fun _ => rfl) (fun j z => nomatch z) (by simp; omega)
      have s3 : Same H H3 := fun x o e => by
        rw [o3 x (fun z => by rw [z,hd] at e; cases e)]
        exact s2 _ _ (s' _ _ e)
      refine ⟨d,H3,rfl,dp,_,rfl,s3,?_⟩
      rw [List.take_add_one,hs,List.map_append]
      exact cm3
    · rintro σ H2 ⟨spv,rfl,s2,cm⟩
      rw [List.take_of_length_le (by omega)] at cm
      refine ⟨_,rfl,b,_,rfl,.inl (SqL.of (s2 _ _ hb)),fun r H3 s3 f3 n3 => ?_⟩
      have nr : H r = none := s2.free n3
      have rd : r ≠ d := fun z => by
        obtain ⟨kvs,e1,_⟩ := cm
        rw [z,e1] at n3
        cases n3
      refine while_by (fun σ H' => ∃ (es : List En) (n : Nat) (spv stv : Option V) (rvs : List V),σ = [some (.ref b),some (.ref f1),some (.ref f2),some (.ref d),spv,some (.ref r),some (.int (n : Int)),stv] ∧ Same H H' ∧ Came H' d es ∧ H' r = some (.lst rvs) ∧ Paired (fun (e : En) v => SpotAt H' v e.1) es rvs ∧ Going bs U stp fin es n ∧ es = stateAt bs stp n)
        (fun σ _ => match σ with | [_,_,_,_,_,_,some (.int n),_] => U.length - n.toNat | _ => 0) ⟨_,0,_,_,_,rfl,s2.trans s3,cm.mono s3,f3,?_,Going.first nd hU,rfl⟩ ?_ ?_
      · have : ∀ {bs : List Spot} {bvs : List V},Paired (fun s v => SpotAt H v s) bs bvs → Paired (fun (e : En) v => SpotAt H3 v e.1) (bs.map fun s => (s,none,.non)) bvs := by
          intro bs bvs pb
          induction pb with
          | nil => exact .nil
          | cons a r ih => exact .cons (SpotAt.mono a (s2.trans s3).t) ih
        exact this pb
      · rintro σ H4 ⟨es,n,spv,stv,rvs,rfl,s4,cm4,f4,pr,go,esn⟩
        have el := Paired.length pr
        have gl := go.len
        refine ⟨_,rfl,_,rfl,r,_,rfl,.inl (SqL.of f4),_,_,rfl,rfl,_,rfl,ite3 (fun g1 => ?_) (fun g1 => ?_)⟩
        · have g1 : (n : Int) < (rvs.length : Int) := dec_t g1
          obtain ⟨v,hv⟩ : ∃ v,rvs[n]? = some v := ⟨rvs[n]'(by omega),by simp [show n < rvs.length by omega]⟩
          obtain ⟨e,he,hsp⟩ := paired_get' pr n v hv
          have eU := go.inU e (List.mem_of_getElem? he)
          refine ⟨_,rfl,_,rfl,r,_,_,_,rfl,rfl,SqL.of f4,atI_nat hv,?_⟩
          refine ⟨f2,sp2,rfl,i2,FO F.o2 s4,_,rfl,FO F.o2 s4,c2 H4 v e.1 _ s4 hsp eU fun H5 s5 => ⟨_,rfl,ite3 (fun g2 => ?_) (fun g2 => ?_)⟩⟩
          · refine ⟨_,rfl,_,rfl,d,v,es,n,e,rfl,cm4.mono s5,go.tree,he,hsp.mono s5.t,by omega,fun r' H' l s' p hl ra => ?_⟩
            obtain ⟨w1,w2,e',w3,w4⟩ := road_of (fin := fin) go.grown p
            rw [he] at w3
            cases w3
            exact q1 r' H' l ((s4.trans s5).trans s') ⟨w1,w2,_,w4,g2⟩ ⟨n,e,by rw [← esn]; exact he,g2,(fun i hi => by
              have hl := go.le
              have hx : es[i]? = some (es[i]'(by omega)) := List.getElem?_eq_getElem (by omega)
              exact ⟨_,by rw [← esn]; exact hx,(go.seen i _ hi hx).1⟩),by rw [← esn]; exact p⟩ (by omega) ra
          · refine ⟨f1,sp1,rfl,i1,FO F.o1 (s4.trans s5),_,rfl,FO F.o1 (s4.trans s5),c1 H5 v e.1 _ (s4.trans s5) (hsp.mono s5.t) eU fun rl H6 s6 n6 st => ?_⟩
            obtain ⟨svs,hr6,ps⟩ := st
            have sl := Paired.length ps
            have few := F.few _ eU
            have cm6 := (cm4.mono s5).mono s6
            have rld : rl ≠ d := fun z => by
              obtain ⟨kvs,e1,_⟩ := cm4.mono s5
              rw [z,e1] at n6
              cases n6
            have rlr : rl ≠ r := fun z => by
              rw [z,s5 _ _ f4] at n6
              cases n6
            have pr6 : Paired (fun (e : En) v => SpotAt H6 v e.1) es rvs := Paired.mapP pr fun a b x => x.mono (s5.t.trans s6.t)
            refine ⟨rl,rfl,⟨_,SqL.of hr6⟩,for_list (K := K) (xs := svs) (fun i σ H' => ∃ (es' : List En) (stv : Option V) (rvs : List V),σ = [some (.ref b),some (.ref f1),some (.ref f2),some (.ref d),some v,some (.ref r),some (.int (n : Int)),stv] ∧ Same H H' ∧ SameT H6 H' ∧ H' rl = some (.lst svs) ∧ Came H' d es' ∧ H' r = some (.lst rvs) ∧ Paired (fun (e : En) v => SpotAt H' v e.1) es' rvs ∧ Going bs U stp fin es' n ∧ es'[n]? = some e ∧ es' = ((stp e.1).take i).foldl (ext1 n) es ∧ ∀ (k : Nat) x,k < i → (stp e.1)[k]? = some x → x.1 ∈ es'.map (·.1))
              ⟨es,_,rvs,rfl,(s4.trans s5).trans s6,SameT.refl,hr6,cm6,s6 _ _ (s5 _ _ f4),pr6,go,he,rfl,fun k x z => absurd z (Nat.not_lt_zero _)⟩ ?_ ?_ ?_⟩
            · rintro i σ H7 hi ⟨es',stv,rvs,rfl,s7,t7,h7,_⟩
              exact SqL.of h7
            · rintro i x σ H7 hx ⟨es',stv,rvs,rfl,s7,t7,h7,cm7,f7,pr7,go7,he7,fo7,sn7⟩
              have el7 := Paired.length pr7
              have gl7 := go7.len
              obtain ⟨y,hy,t,sv,rfl,ht,p,rfl,hp⟩ := paired_get' ps i x hx
              have ht7 := t7 _ _ ht
              have hp7 := t7 _ _ hp
              obtain ⟨o,dg,iff⟩ := cm7.look hp7
              refine ⟨_,rfl,t,_,_,_,rfl,rfl,SqT.of ht7,rfl,_,rfl,d,o,rfl,dg,_,rfl,?_⟩
              cases ho : o.isSome with
              | true =>
                refine iteF ?_
                refine ⟨es',_,rvs,rfl,s7,t7,h7,cm7,f7,pr7,go7,he7,by rw [List.take_add_one,hy,Option.toList_some,List.foldl_append,← fo7]; exact (if_pos (iff.mp ho)).symm,fun k x hk hz => ?_⟩
                by_cases z : k = i
                · subst z
                  rw [hy] at hz
                  cases hz
                  exact iff.mp ho
                · exact sn7 k x (by omega) hz
              | false =>
                have hnew : y.1 ∉ es'.map (·.1) := fun z => by rw [iff.mpr z] at ho; cases ho
                have hyU := F.shut _ eU y (List.mem_of_getElem? hy)
                refine iteT ?_
                refine ⟨_,rfl,_,rfl,t,_,_,_,rfl,rfl,SqT.of ht7,rfl,sz (by simp),fun x8 H8 s8 f8 n8 => ⟨_,rfl,_,rfl,t,_,_,_,rfl,rfl,SqT.of (s8 _ _ ht7),rfl,?_⟩⟩
                obtain ⟨H9,dp,cm9,t9,o9⟩ := (cm7.mono s8).add (s := y.1) (pj := some n) (h := y.2) (s8 _ _ hp7) f8 hnew (fun z => nomatch z) (fun j z => by cases z; exact ⟨e,he7,hsp.mono (((s5.t.trans s6.t).trans t7).trans s8.t)⟩) (by omega)
                refine ⟨d,H9,rfl,dp,?_⟩
                have f9 : H9 r = some (.lst rvs) := (o9 r rd).trans (s8 _ _ f7)
                have T9 := s8.t.trans t9
                refine ⟨_,rfl,.inl ⟨rfl,_,SqL.of f9⟩,_,rfl,t,_,_,_,rfl,rfl,SqT.of (T9 _ _ ht7),rfl,r,_,_,rfl,rfl,f9,small1000 (by omega),fun H10 u => ?_⟩
                have T10 := T9.trans u.t
                have s10 : Same H H10 := fun x o eo => by
                  refine u.at (fun z => by rw [z,nr] at eo; cases eo) ?_
                  rw [o9 x (fun z => by rw [z,hd] at eo; cases eo)]
                  exact s8 _ _ (s7 _ _ eo)
                have cm10 : Came H10 d (es' ++ [(y.1,some n,y.2)]) := by
                  obtain ⟨kvs,k1,k2⟩ := cm9
                  exact ⟨kvs,u.at (fun z => rd z.symm) k1,Paired.mapP k2 fun a b x => x.mono u.t fun _ _ h => h⟩
                refine ⟨es' ++ [(y.1,some n,y.2)],_,_,rfl,s10,t7.trans T10,u.at rlr ((o9 rl rld).trans (s8 _ _ h7)),cm10,u.now,Paired.snoc (Paired.mapP pr7 fun a b x => x.mono T10) ⟨p,rfl,T10 _ _ hp7⟩,go7.add he7 (List.mem_of_getElem? hy) hyU hnew,?_,by rw [List.take_add_one,hy,Option.toList_some,List.foldl_append,← fo7]; exact (if_neg hnew).symm,fun k x hk hz => ?_⟩
                · rw [List.getElem?_append_left (List.getElem?_eq_some_iff.mp he7).1]
                  exact he7
                · rw [List.map_append]
                  by_cases z : k = i
                  · subst z
                    rw [hy] at hz
                    cases hz
                    exact List.mem_append_right _ (by simp)
                  · exact List.mem_append_left _ (sn7 k x (by omega) hz)
            · rintro σ H7 ⟨es',stv,rvs,rfl,s7,t7,h7,cm7,f7,pr7,go7,he7,fo7,sn7⟩
              refine ⟨_,rfl,_,_,rfl,rfl,?_⟩
              refine ⟨⟨es',n + 1,_,_,rvs,rfl,s7,cm7,f7,pr7,go7.next he7 g2 fun x hx => ?_,?_⟩,?_⟩
              · obtain ⟨k,hk⟩ := List.getElem?_of_mem hx
                exact sn7 k x (by have := (List.getElem?_eq_some_iff.mp hk).1; omega) hk
              · rw [fo7,List.take_of_length_le (by omega)]
                show _ = match (stateAt bs stp n)[n]? with
                  | some e => (stp e.1).foldl (ext1 n) (stateAt bs stp n)
                  | none => stateAt bs stp n
                rw [← esn,he]
              · have gl7 := go7.len
                have ln := (List.getElem?_eq_some_iff.mp he7).1
                show U.length - ((n : Int) + 1).toNat < U.length - (n : Int).toNat
                omega
        · have g1 : ¬ ((n : Int) < (rvs.length : Int)) := fun z => by rw [show decide ((n : Int) < (rvs.length : Int)) = true from decide_eq_true z] at g1; cases g1
          exact q0 H4 s4 (go.shut (by omega))
      · rintro σ H' Q1 Q2 hq ⟨v,e,w,e2,r,xs,h1,h2,i,j,h3,h4,k,ek,rr⟩
        exact ⟨v,e,w,e2,r,xs,h1,h2,i,j,h3,h4,k,ek,hq _ _ rr⟩
def farB (qs1 qs2 : Crn) (a b room : Int) (i j : Int) : Bool := match qs1[i.toNat]?,qs2[j.toNat]? with
  | some c,some d => decide (lo c.2.1 c.2.2 d.2.1 d.2.2 a b < room)
  | _,_ => false
theorem farB_at {qs1 qs2 : Crn} {a b room : Int} {i j : Nat} {c d : Addr × Int × Int} (hc : qs1[i]? = some c) (hd : qs2[j]? = some d) : farB qs1 qs2 a b room i j = decide (lo c.2.1 c.2.2 d.2.1 d.2.2 a b < room) := by
  unfold farB
  rw [Int.toNat_natCast,Int.toNat_natCast,hc,hd]
def spFar : Sp := fun vs H Q _ => ∃ (l1 l2 sp : Addr) (qs1 qs2 : Crn) (a b room : Int),vs = [.ref l1,.ref l2,.ref sp,.int room] ∧ LineM H l1 qs1 ∧ LineM H l2 qs2 ∧ (1 ≤ qs1.length ∧ qs1.length ≤ 20) ∧ (1 ≤ qs2.length ∧ qs2.length ≤ 20) ∧ Sq H sp a b ∧
  ∀ d H',Same H H' → FarD H' d (qs1.length - 1) (qs2.length - 1) (farB qs1 qs2 a b room) → Q (.ref d) H'
def spBeg : Sp := fun vs H Q _ => ∃ (c l : Addr) (i j m n : Int),vs = [.ref c,.ref l,.str "hops"] ∧ H c = some (.tup [.int i,.int j]) ∧ H l = some (.tup [.int m,.int n]) ∧ Q (.bl (decide (j = n) || decide (i = 0))) H
def spEnd : Sp := fun vs H Q _ => ∃ (c l : Addr) (i j m n : Int),vs = [.ref c,.ref l,.str "hops"] ∧ H c = some (.tup [.int i,.int j]) ∧ H l = some (.tup [.int m,.int n]) ∧ Q (.bl (decide (j = 0) || decide (i = m))) H
def spPair1 : Sp := fun vs H Q _ => ∃ (c : Addr) (i j : Int),vs = [.ref c] ∧ H c = some (.tup [.int i,.int j]) ∧ (0 ≤ i ∧ i ≤ 1000) ∧ (0 ≤ j ∧ j ≤ 1000) ∧ ∀ (q : Pr) H',Same H H' → PrAt H' q → prC q (i,j) → Q (.ref q.p) H'
theorem pr_of {H : Hp} {p x y : Addr} {i j : Int} (hp : H p = some (.tup [.ref x,.ref y])) (hx : H x = some (.tup [.int i,.int 1])) (hy : H y = some (.tup [.int j,.int 1])) (bi : 0 ≤ i ∧ i ≤ 1000) (bj : 0 ≤ j ∧ j ≤ 1000) : PrAt H ⟨p,x,y,i,1,j,1⟩ := by
  have b1 : ∀ {k : Int},0 ≤ k ∧ k ≤ 1000 → bits k ≤ 10 := fun {k} h => bits_small (by omega) h.2
  have one : bits (1 : Int) ≤ 60 := bits_le (b1 (k := 1) ⟨by decide,by decide⟩) (by decide)
  have lw : ∀ k : Int,Low k 1 := fun k => ⟨Int.le_refl 1,by simp⟩
  exact ⟨hp,hx,hy,lw i,lw j,bi.1,bj.1,bits_le (b1 bi) (by decide),one,bits_le (b1 bj) (by decide),one⟩
def selC (P : Int × Int → Bool) : Spot × V → Bool
  | ([.inl x,.inl y],_) => P (x,y)
  | _ => false
theorem kvF_filter {P : Int × Int → Bool} : ∀ {l : List (Int × Int)},(kvF l).filter (selC P) = kvF (l.filter P)
  | [] => rfl
  | p :: r => by
    have ih := kvF_filter (P := P) (l := r)
    unfold kvF at ih ⊢
    rw [List.map_cons,List.filter_cons,List.filter_cons,ih]
    show (if P p = true then _ else _) = _
    split <;> rfl
theorem paired_map {α β γ : Type} {G : β → γ → Prop} {f : α → β} : ∀ {l : List α} {ys : List γ},Paired G (l.map f) ys → Paired (fun a y => G (f a) y) l ys
  | [],_,h => by cases h; exact .nil
  | a :: r,_,h => by
    cases h with
    | cons h1 h2 => exact .cons h1 (paired_map h2)
theorem paired_unmap {α β γ : Type} {G : β → γ → Prop} {f : α → β} : ∀ {l : List α} {ys : List γ},Paired (fun a y => G (f a) y) l ys → Paired G (l.map f) ys
  | [],_,h => by cases h; exact .nil
  | a :: r,_,h => by
    cases h with
    | cons h1 h2 => exact .cons h1 (paired_unmap h2)
def spOn : Sp := fun vs H Q _ => ∃ (d l c : Addr) (m n : Nat) (F : Int → Int → Bool) (i j : Int),vs = [.ref d,.ref l,.ref c] ∧ FarD H d m n F ∧ H l = some (.tup [.int (m : Int),.int (n : Int)]) ∧ H c = some (.tup [.int i,.int j]) ∧
  ∀ r H',Same H H' → H r = none → StepsAt H' r (onS m n F (ck i j)) → Q (.ref r) H'
def spAs : Sp := fun vs H Q _ => ∃ (d c : Addr) (m n : Nat) (F : Int → Int → Bool) (i j : Int),vs = [.ref d,.ref c] ∧ FarD H d m n F ∧ (m ≤ 20 ∧ n ≤ 20) ∧ H c = some (.tup [.int i,.int j]) ∧ (0 ≤ i ∧ i ≤ 1000) ∧ (0 ≤ j ∧ j ≤ 1000) ∧
  ∀ r H',Same H H' → H r = none → StepsAt H' r (asS m n F (ck i j)) → Q (.ref r) H'
theorem S_sign_of : FnScope ["number"] ["number"] (defScope (top 12)) := ⟨rfl,rfl,rfl,by decide +kernel,rfl,by decide +kernel,by decide +kernel⟩
theorem fn_sign_of (D_sign_of : Df K mg "sign_of" (top 12)) : Fn P w K mg base "sign_of" ["number"] 1 spSign := by
  refine D_sign_of.fn S_sign_of (fun _ _ _ _ _ _ us hl => by obtain ⟨_,rfl⟩ := len1 hl; rfl) (fun vs H Q E h => ?_) (fun f cdv A outer s H vs Q E hr h => ?_)
  · obtain ⟨n,rfl,_⟩ := h
    rfl
  · obtain ⟨n,rfl,q⟩ := h
    refine ⟨_,(pss_cons (ps_if (pt_cmpR op_gt (pv 0) pe_int (nomark _)) (pss_one (ps_ret pe_int)) pss_nil) (pss_cons (ps_if (pt_cmpR op_lt (pv 0) pe_int (nomark _)) (pss_one (ps_ret (pe_un un_neg pe_int))) pss_nil) (pss_one (ps_ret pe_int)))),?_⟩
    unfold sg at q
    refine ⟨_,rfl,_,_,rfl,rfl,_,rfl,ite3 (fun h1 => ?_) (fun h1 => ?_)⟩
    · rw [if_pos (by simpa using h1)] at q
      exact q
    · rw [if_neg (by simpa using h1)] at q
      refine ⟨_,rfl,_,_,rfl,rfl,_,rfl,ite3 (fun h2 => ?_) (fun h2 => ?_)⟩
      · rw [if_pos (by simpa using h2)] at q
        exact ⟨_,rfl,q⟩
      · rw [if_neg (by simpa using h2)] at q
        exact q
theorem S_leash_order : FnScope ["one","other","square","across","up"] ["one","other","square"] (defScope (top 15)) := ⟨rfl,rfl,rfl,by decide +kernel,rfl,by decide +kernel,by decide +kernel⟩
theorem fn_leash_order (D_leash_order : Df K mg "leash_order" (top 15)) (F_sign_of : Fn P w K mg base "sign_of" ["number"] 1 spSign) : Fn P w K mg base "leash_order" ["one","other","square"] 2 spLo := by
  refine D_leash_order.fn S_leash_order (fun _ _ _ _ _ _ us hl => by obtain ⟨_,_,_,rfl⟩ := len3 hl; rfl) (fun vs H Q E h => ?_) (fun f cdv A outer s H vs Q E hr h => ?_)
  · obtain ⟨p,q,r,x,y,x',y',a,b,rfl,_⟩ := h
    rfl
  · obtain ⟨p,q,r,x,y,x',y',a,b,rfl,⟨e1,b1,b2⟩,⟨e2,b3,b4⟩,⟨e3,b5,b6⟩,k⟩ := h
    refine ⟨_,(pss_cons (ps_set (i := 3) S_leash_order.nd rfl (Or.inl rfl) (pe_op op_sub (pe_ix ix_tup (pv 1) pe_int (fun _ _ => rfl)) (pe_ix ix_tup (pv 0) pe_int (fun _ _ => rfl)))) (pss_cons (ps_set (i := 4) S_leash_order.nd rfl (Or.inl rfl) (pe_op op_sub (pe_ix ix_tup (pv 1) pe_int (fun _ _ => rfl)) (pe_ix ix_tup (pv 0) pe_int (fun _ _ => rfl)))) (pss_one (ps_ret (pe_fn F_sign_of (hr.mono (by decide)) (by rfl) (pa_cons (pe_op op_sub (pe_ix ix_tup (pv 2) pe_int (fun _ _ => rfl)) (pe_op op_mulX (pe_op op_add (pe_op op_mulX (pv 3) (pv 3)) (pe_op op_mulX (pv 4) (pv 4))) (pe_ix ix_tup (pv 2) pe_int (fun _ _ => rfl)))) pa_nil)))))),?_⟩
    walk_at "rd"
    exact k
theorem S_look_at_square : FnScope ["square"] ["square"] (defScope (top 14)) := ⟨rfl,rfl,rfl,by decide +kernel,rfl,by decide +kernel,by decide +kernel⟩
theorem fn_look_at_square {C : Addr} (D_look_at_square : Df K mg "look_at_square" (top 14)) (O_NoSquare : ExcC K mg "NoSquare" C) (F_is_ratio : Fn P w K mg base "is_ratio" ["thing"] 2 spLow) : Fx P w K mg base "look_at_square" ["square"] 3 [] (spLookS C) := by
  refine D_look_at_square.fx S_look_at_square (fun _ _ _ _ _ _ us hl => by obtain ⟨_,rfl⟩ := len1 hl; rfl) (fun vs H Q E h => ?_) (fun f cdv A outer s H vs Q E hr h => ?_)
  · obtain ⟨x,rfl,_⟩ := h
    rfl
  · obtain ⟨x,rfl,th,k0,k1⟩ := h
    refine ⟨_,(pss_one (ps_if (pw_or (pt_not (pt_val (pe_fn F_is_ratio (hr.mono (by decide)) (by rfl) (pa_cons (pv 0) pa_nil)))) (pw_or1 (pt_cmpR op_lt (pe_ix ix_tup (pv 0) pe_int (fun _ _ => rfl)) pe_int (nomark _)))).pt (pss_one (ps_raise O_NoSquare (by rfl))) pss_nil)),?_⟩
    refine ⟨_,rfl,x,rfl,th,_,rfl,?_⟩
    cases hl : lowV H x with
    | false => exact iteT (k0 (sqV_low hl))
    | true =>
      obtain ⟨p,a,b,rfl,e,lw⟩ := lowV_inv hl
      rw [sqV_two e,low_B lw,Bool.true_and] at k0 k1
      refine iteF ?_
      refine ⟨_,rfl,p,_,_,_,rfl,rfl,SqT.of e,rfl,_,_,rfl,rfl,_,rfl,ite3 (fun h1 => ?_) (fun h1 => ?_)⟩
      · exact k0 (by rw [show decide (a < 0) = true from h1]; rfl)
      · exact k1 (by rw [show decide (a < 0) = false from h1]; rfl)
theorem S_hops_aside : FnScope ["begin","end","rise","fall"] ["begin","end"] (defScope (top 10)) := ⟨rfl,rfl,rfl,by decide +kernel,rfl,by decide +kernel,by decide +kernel⟩
theorem fn_hops_aside (D_hops_aside : Df K mg "hops_aside" (top 10)) : Fn P w K mg base "hops_aside" ["begin","end"] 1 (spTwo asideB) := by
  refine D_hops_aside.fn S_hops_aside (fun _ _ _ _ _ _ us hl => by obtain ⟨_,_,rfl⟩ := len2 hl; rfl) (fun vs H Q E h => ?_) (fun f cdv A outer s H vs Q E hr h => ?_)
  · obtain ⟨u,v,rfl,_⟩ := h
    rfl
  · obtain ⟨u,v,rfl,pu,qv,q⟩ := h
    refine ⟨_,(pss_cons (ps_set (i := 2) S_hops_aside.nd rfl (Or.inl rfl) (pe_op op_sub (pe_ix ix_tup (pe_ix ix_tup (pv 1) pe_int (fun _ _ => rfl)) pe_int (fun _ _ => rfl)) (pe_ix ix_tup (pe_ix ix_tup (pv 0) pe_int (fun _ _ => rfl)) pe_int (fun _ _ => rfl)))) (pss_cons (ps_set (i := 3) S_hops_aside.nd rfl (Or.inl rfl) (pe_op op_sub (pe_ix ix_tup (pe_ix ix_tup (pv 0) pe_int (fun _ _ => rfl)) pe_int (fun _ _ => rfl)) (pe_ix ix_tup (pe_ix ix_tup (pv 1) pe_int (fun _ _ => rfl)) pe_int (fun _ _ => rfl)))) (pss_one (ps_ret (pe_or (pe_and (pe_cmpR op_le (pv 2) pe_int (nomark _)) (pe_one (pe_cmpR op_le (pv 3) pe_int (nomark _)))) (pe_one (pe_and (pe_cmpR op_le (pv 2) pe_int (nomark _)) (pe_one (pe_cmpR op_le (pv 3) pe_int (nomark _)))))))))),?_⟩
    have q := q H (Same.refl _)
    unfold asideB at q
    have P1 := SqT.of (K := K) pu.p_
    have P2 := SqT.of (K := K) qv.p_
    refine ⟨_,rfl,v.p,_,_,_,rfl,rfl,P2,rfl,v.x,_,_,_,rfl,rfl,SqT.of qv.x_,rfl,_,rfl,u.p,_,_,_,rfl,rfl,P1,rfl,u.x,_,_,_,rfl,rfl,SqT.of pu.x_,rfl,_,_,rfl,rfl,?_⟩
    refine ⟨_,rfl,u.p,_,_,_,rfl,rfl,P1,rfl,u.y,_,_,_,rfl,rfl,SqT.of pu.y_,rfl,_,rfl,v.p,_,_,_,rfl,rfl,P2,rfl,v.y,_,_,_,rfl,rfl,SqT.of qv.y_,rfl,_,_,rfl,rfl,?_⟩
    have tl : (decide (v.a - u.a ≤ 0) && decide (u.c - v.c ≤ 1)) = false → Q (.bl (decide (v.a - u.a ≤ 1) && decide (u.c - v.c ≤ 0))) H := fun e => by rw [e,Bool.false_or] at q; exact q
    refine ⟨_,rfl,_,_,rfl,rfl,_,rfl,ite3 (fun h1 => ?_) (fun h1 => ?_)⟩
    · refine ⟨_,rfl,_,_,rfl,rfl,_,rfl,ite3 (fun h2 => ?_) (fun h2 => ?_)⟩
      · rw [h1,h2] at q
        exact q
      · have t := tl (by rw [h1,h2]; rfl)
        refine ⟨_,rfl,_,_,rfl,rfl,_,rfl,ite3 (fun h3 => ?_) (fun h3 => ?_)⟩
        · rw [h3,Bool.true_and] at t
          exact ⟨_,rfl,_,_,rfl,rfl,t⟩
        · rw [h3,Bool.false_and] at t
          exact t
    · have t := tl (by rw [h1]; rfl)
      refine ⟨_,rfl,iteF ?_⟩
      refine ⟨_,rfl,_,_,rfl,rfl,_,rfl,ite3 (fun h3 => ?_) (fun h3 => ?_)⟩
      · rw [h3,Bool.true_and] at t
        exact ⟨_,rfl,_,_,rfl,rfl,t⟩
      · rw [h3,Bool.false_and] at t
        exact t
theorem S_begins_fence : FnScope ["corner","last","way"] ["corner","last","way"] (defScope (top 18)) := ⟨rfl,rfl,rfl,by decide +kernel,rfl,by decide +kernel,by decide +kernel⟩
theorem fn_begins_fence (D_begins_fence : Df K mg "begins_fence" (top 18)) : Fn P w K mg base "begins_fence" ["corner","last","way"] 1 spBeg := by
  refine D_begins_fence.fn S_begins_fence (fun _ _ _ _ _ _ us hl => by obtain ⟨_,_,_,rfl⟩ := len3 hl; rfl) (fun vs H Q E h => ?_) (fun f cdv A outer s H vs Q E hr h => ?_)
  · obtain ⟨c,l,i,j,m,n,rfl,_⟩ := h
    rfl
  · obtain ⟨c,l,i,j,m,n,rfl,hc,hl,q⟩ := h
    refine ⟨_,(pss_one (ps_ret (pe_or (pe_cmpR op_eq (pe_ix ix_tup (pv 0) pe_int (fun _ _ => rfl)) (pe_ix ix_tup (pv 1) pe_int (fun _ _ => rfl)) (nomark _)) (pe_one (pe_and (pe_cmpR op_ne (pv 2) pe_str (nomark _)) (pe_one (pe_cmpR op_eq (pe_ix ix_tup (pv 0) pe_int (fun _ _ => rfl)) pe_int (nomark _)))))))),?_⟩
    refine ⟨_,rfl,c,_,_,_,rfl,rfl,SqT.of hc,rfl,_,rfl,l,_,_,_,rfl,rfl,SqT.of hl,rfl,rfl,_,rfl,?_⟩
    rw [di]
    refine ite3 (fun h1 => ?_) (fun h1 => ?_)
    · rw [h1] at q
      exact q
    · rw [h1,Bool.false_or] at q
      refine ⟨_,rfl,rfl,_,rfl,?_⟩
      rw [show (!decide (V.str (Str.ofString "hops") = V.str (Str.ofString "part"))) = true from rfl]
      refine iteT ?_
      exact ⟨_,rfl,c,_,_,_,rfl,rfl,SqT.of hc,rfl,rfl,by rw [di]; exact q⟩
theorem S_ends_fence : FnScope ["corner","last","way"] ["corner","last","way"] (defScope (top 19)) := ⟨rfl,rfl,rfl,by decide +kernel,rfl,by decide +kernel,by decide +kernel⟩
theorem fn_ends_fence (D_ends_fence : Df K mg "ends_fence" (top 19)) : Fn P w K mg base "ends_fence" ["corner","last","way"] 1 spEnd := by
  refine D_ends_fence.fn S_ends_fence (fun _ _ _ _ _ _ us hl => by obtain ⟨_,_,_,rfl⟩ := len3 hl; rfl) (fun vs H Q E h => ?_) (fun f cdv A outer s H vs Q E hr h => ?_)
  · obtain ⟨c,l,i,j,m,n,rfl,_⟩ := h
    rfl
  · obtain ⟨c,l,i,j,m,n,rfl,hc,hl,q⟩ := h
    refine ⟨_,(pss_one (ps_ret (pe_or (pe_cmpR op_eq (pe_ix ix_tup (pv 0) pe_int (fun _ _ => rfl)) pe_int (nomark _)) (pe_one (pe_and (pe_cmpR op_ne (pv 2) pe_str (nomark _)) (pe_one (pe_cmpR op_eq (pe_ix ix_tup (pv 0) pe_int (fun _ _ => rfl)) (pe_ix ix_tup (pv 1) pe_int (fun _ _ => rfl)) (nomark _)))))))),?_⟩
    refine ⟨_,rfl,c,_,_,_,rfl,rfl,SqT.of hc,rfl,rfl,_,rfl,?_⟩
    rw [di]
    refine ite3 (fun h1 => ?_) (fun h1 => ?_)
    · rw [h1] at q
      exact q
    · rw [h1,Bool.false_or] at q
      refine ⟨_,rfl,rfl,_,rfl,?_⟩
      rw [show (!decide (V.str (Str.ofString "hops") = V.str (Str.ofString "part"))) = true from rfl]
      refine iteT ?_
      exact ⟨_,rfl,c,_,_,_,rfl,rfl,SqT.of hc,rfl,_,rfl,l,_,_,_,rfl,rfl,SqT.of hl,rfl,rfl,by rw [di]; exact q⟩
theorem S_pair_at_corner : FnScope ["corner"] ["corner"] (defScope (top 20)) := ⟨rfl,rfl,rfl,by decide +kernel,rfl,by decide +kernel,by decide +kernel⟩
theorem fn_pair_at_corner (D_pair_at_corner : Df K mg "pair_at_corner" (top 20)) : Fn P w K mg base "pair_at_corner" ["corner"] 1 spPair1 := by
  refine D_pair_at_corner.fn S_pair_at_corner (fun _ _ _ _ _ _ us hl => by obtain ⟨_,rfl⟩ := len1 hl; rfl) (fun vs H Q E h => ?_) (fun f cdv A outer s H vs Q E hr h => ?_)
  · obtain ⟨c,i,j,rfl,_⟩ := h
    rfl
  · obtain ⟨c,i,j,rfl,hc,bi,bj,q⟩ := h
    refine ⟨_,(pss_one (ps_ret (@pe_tupA _ _ _ _ _ (@pa_cons _ _ _ _ _ (@pe_tupA _ _ _ _ _ (@pa_cons _ _ _ _ _ (pe_ix ix_tup (pv 0) pe_int (fun _ _ => rfl)) (@pa_cons _ _ _ _ _ pe_int pa_nil (by rfl)) (by rfl))) (@pa_cons _ _ _ _ _ (@pe_tupA _ _ _ _ _ (@pa_cons _ _ _ _ _ (pe_ix ix_tup (pv 0) pe_int (fun _ _ => rfl)) (@pa_cons _ _ _ _ _ pe_int pa_nil (by rfl)) (by rfl))) pa_nil (by rfl)) (by rfl))))),?_⟩
    refine ⟨_,rfl,c,_,_,_,rfl,rfl,SqT.of hc,rfl,sz (by simp),fun x H1 s1 f1 n1 => ?_⟩
    refine ⟨_,rfl,c,_,_,_,rfl,rfl,SqT.of (s1 _ _ hc),rfl,sz (by simp),fun y H2 s2 f2 n2 => ⟨sz (by simp),fun p H3 s3 f3 n3 => ?_⟩⟩
    exact q ⟨p,x,y,i,1,j,1⟩ H3 ((s1.trans s2).trans s3) (pr_of f3 ((s2.trans s3) _ _ f1) (s3 _ _ f2) bi bj) ⟨rfl,rfl,rfl,rfl⟩
theorem S_far_corners : FnScope ["one","other","square","room","far","i","corner","j","beside"] ["one","other","square","room"] (defScope (top 17)) := ⟨rfl,rfl,rfl,by decide +kernel,rfl,by decide +kernel,by decide +kernel⟩
theorem fn_far_corners (D_far_corners : Df K mg "far_corners" (top 17)) (F_leash_order : Fn P w K mg base "leash_order" ["one","other","square"] 2 spLo) (T : Txt mg) : Fn P w K mg base "far_corners" ["one","other","square","room"] 3 spFar := by
  refine D_far_corners.fn S_far_corners (fun _ _ _ _ _ _ us hl => by obtain ⟨_,_,_,_,rfl⟩ := len4 hl; rfl) (fun vs H Q E h => ?_) (fun f cdv A outer s H vs Q E hr h => ?_)
  · obtain ⟨l1,l2,sp,qs1,qs2,a,b,room,rfl,_⟩ := h
    rfl
  · obtain ⟨l1,l2,sp,qs1,qs2,a,b,room,rfl,L1,L2',b1,b2,sq,q⟩ := h
    refine ⟨_,(pss_cons (ps_set (i := 4) S_far_corners.nd rfl (Or.inl rfl) pe_dnewT) (pss_cons (ps_for PassesOwn.never rfl (pi_enum rfl T.z_enumerate (pa_cons (pv 0) pa_nil)) (pg_tup rfl (pgs_cons (pg_name (i := 5) S_far_corners.nd rfl (Or.inl rfl)) (pgs_cons (pg_name (i := 6) S_far_corners.nd rfl (Or.inl rfl)) pgs_nil))) (pss_one (ps_for PassesOwn.never rfl (pi_enum rfl T.z_enumerate (pa_cons (pv 1) pa_nil)) (pg_tup rfl (pgs_cons (pg_name (i := 7) S_far_corners.nd rfl (Or.inl rfl)) (pgs_cons (pg_name (i := 8) S_far_corners.nd rfl (Or.inl rfl)) pgs_nil))) (pss_one (ps_if (pt_cmpR op_lt (pe_fn F_leash_order (hr.mono (by decide)) (by rfl) (pa_cons (pv 6) (pa_cons (pv 8) (pa_cons (pv 2) pa_nil)))) (pv 3) (nomark _)) (pss_one (ps_dput (hu_of hr) (pv 4) (pe_tupA (pa_cons (pv 5) (pa_cons (pv 7) pa_nil))) pe_bl rfl)) pss_nil))))) (pss_one (ps_ret (pe_frz (pv 4)))))),?_⟩
    have hl1 : (qs1.map fun (q : Addr × Int × Int) => V.ref q.1).length = qs1.length := List.length_map _
    have hl2 : (qs2.map fun (q : Addr × Int × Int) => V.ref q.1).length = qs2.length := List.length_map _
    generalize hF : farB qs1 qs2 a b room = F at q
    refine fun d hd => ?_
    have s0 : Same H (upd H d (.dT [])) := Same.new hd
    refine ⟨_,rfl,l1,rfl,⟨_,SqL.of (s0 _ _ L1.lst)⟩,for_enum (K := K) (a := l1) (xs := qs1.map fun (q : Addr × Int × Int) => V.ref q.1) (fun i σ H' => ∃ (z5 z6 z7 z8 : Option V),σ = [some (.ref l1),some (.ref l2),some (.ref sp),some (.int room),some (.ref d),z5,z6,z7,z8] ∧ Same H H' ∧ H' d = some (.dT (kvF (farP F qs2.length i))))
      ⟨_,_,_,_,rfl,s0,upd_same⟩ (fun i σ H' _ ⟨_,_,_,_,_,s',_⟩ => SqL.of (s' _ _ L1.lst)) ?_ ?_⟩
    · rintro i x pp σ H1 H2 hx ⟨z5,z6,z7,z8,rfl,s1,e1⟩ s2 f2
      rw [List.getElem?_map] at hx
      obtain ⟨u,hu,rfl⟩ := Option.map_eq_some_iff.mp hx
      have iu := (List.getElem?_eq_some_iff.mp hu).1
      have S2 := s1.trans s2
      refine ⟨pp,_,rfl,SqT.of f2,rfl,_,_,rfl,_,_,rfl,rfl,?_⟩
      refine ⟨_,rfl,l2,rfl,⟨_,SqL.of (S2 _ _ L2'.lst)⟩,for_enum (K := K) (a := l2) (xs := qs2.map fun (q : Addr × Int × Int) => V.ref q.1) (fun j σ H' => ∃ (z7 z8 : Option V),σ = [some (.ref l1),some (.ref l2),some (.ref sp),some (.int room),some (.ref d),some (.int (i : Int)),some (.ref u.1),z7,z8] ∧ Same H H' ∧ H' d = some (.dT (kvF (farP F qs2.length i ++ rowL F i j))))
        ⟨_,_,rfl,S2,by rw [show rowL F i 0 = [] from rfl,List.append_nil]; exact s2 _ _ e1⟩ (fun i σ H' _ ⟨_,_,_,s',_⟩ => SqL.of (s' _ _ L2'.lst)) ?_ ?_⟩
      · rintro j x pp σ H3 H4 hx ⟨z7,z8,rfl,s3,e3⟩ s4 f4
        rw [List.getElem?_map] at hx
        obtain ⟨v,hv,rfl⟩ := Option.map_eq_some_iff.mp hx
        have jv := (List.getElem?_eq_some_iff.mp hv).1
        have S4 := s3.trans s4
        have cu := (L1.mono S4).crn u (List.mem_of_getElem? hu)
        have cv := (L2'.mono S4).crn v (List.mem_of_getElem? hv)
        have e4 := s4 _ _ e3
        have fa : F i j = decide (lo u.2.1 u.2.2 v.2.1 v.2.2 a b < room) := by rw [← hF]; exact farB_at hu hv
        refine ⟨pp,_,rfl,SqT.of f4,rfl,_,_,rfl,_,_,rfl,rfl,?_⟩
        refine ⟨_,rfl,_,rfl,_,rfl,u.1,v.1,sp,_,_,_,_,_,_,rfl,⟨cu.1,sm_bits cu.2.1,sm_bits cu.2.2⟩,⟨cv.1,sm_bits cv.2.1,sm_bits cv.2.2⟩,sq.mono S4,_,rfl,_,_,rfl,rfl,_,rfl,ite3 (fun g => ?_) (fun g => ?_)⟩
        · rw [← fa] at g
          refine ⟨_,rfl,_,rfl,_,rfl,sz (by simp),fun c H5 s5 f5 n5 => ?_⟩
          have e5 := s5 _ _ e4
          have nk : ((i : Int),(j : Int)) ∉ farP F qs2.length i ++ rowL F i j := fun z => by
            rcases List.mem_append.mp z with z | z
            · have := (mem_farP.mp z).2.1
              dsimp only at this
              omega
            · have := (mem_rowL.mp z).2.2.1
              dsimp only at this
              omega
          have nv : valV (kvF (farP F qs2.length i ++ rowL F i j)) (ck i j) = none := valV_out fun z => nk (kvF_keys.mp z)
          have len : (kvF (farP F qs2.length i ++ rowL F i j)).length < sizeLine := by
            unfold kvF
            rw [List.length_map,List.length_append]
            have h1 := farP_len (F := F) (n := qs2.length) (i := i)
            have h2 := rowL_len (F := F) (i := i) (k := j)
            have h3 := Nat.mul_le_mul (show i ≤ 20 by omega) b2.2
            exact small1000 (by omega)
          refine ⟨d,_,rfl,DPut.t (k := ck i j) e5 f5 len,_,_,rfl,?_,?_⟩
          · exact fun x o e => by
              rw [upd_ne (fun z => by rw [z,hd] at e; cases e)]
              exact s5 _ _ (S4 _ _ e)
          · rw [upd_same,putK_new _ nv,rowL_succ,if_pos g]
            unfold kvF
            rw [← List.append_assoc,List.map_append (l₂ := [_])]
            rfl
        · rw [← fa] at g
          refine ⟨_,_,rfl,S4,?_⟩
          rw [rowL_succ,if_neg (by rw [g]; exact Bool.false_ne_true),List.append_nil]
          exact e4
      · rintro σ H3 ⟨z7,z8,rfl,s3,e3⟩
        rw [hl2,← farP_succ] at e3
        exact ⟨_,_,_,_,rfl,s3,e3⟩
    · rintro σ H1 ⟨z5,z6,z7,z8,rfl,s1,e1⟩
      rw [hl1] at e1
      refine ⟨_,rfl,d,_,rfl,e1,fun o => q d _ ?_ ⟨o,?_⟩⟩
      · exact fun x o e => by
          rw [upd_ne (fun z => by rw [z,hd] at e; cases e)]
          exact s1 _ _ e
      · rw [upd_same]
        unfold farL
        rw [show qs1.length - 1 + 1 = qs1.length by omega,show qs2.length - 1 + 1 = qs2.length by omega]
theorem S_steps_on : FnScope ["far","last","corner","i","j","steps","found"] ["far","last","corner"] (defScope (top 25)) := ⟨rfl,rfl,rfl,by decide +kernel,rfl,by decide +kernel,by decide +kernel⟩
theorem fn_steps_on (D_steps_on : Df K mg "steps_on" (top 25)) : Fn P w K mg base "steps_on" ["far","last","corner"] 2 spOn := by
  refine D_steps_on.fn S_steps_on (fun _ _ _ _ _ _ us hl => by obtain ⟨_,_,_,rfl⟩ := len3 hl; rfl) (fun vs H Q E h => ?_) (fun f cdv A outer s H vs Q E hr h => ?_)
  · obtain ⟨d,l,c,m,n,F,i,j,rfl,_⟩ := h
    rfl
  · obtain ⟨d,l,c,m,n,F,i,j,rfl,fd,hl,hc,q⟩ := h
    refine ⟨_,(pss_cons (ps_set (i := 3) S_steps_on.nd rfl (Or.inl rfl) (pe_ix ix_tup (pv 2) pe_int (fun _ _ => rfl))) (pss_cons (ps_set (i := 4) S_steps_on.nd rfl (Or.inl rfl) (pe_ix ix_tup (pv 2) pe_int (fun _ _ => rfl))) (pss_cons (ps_set (i := 5) S_steps_on.nd rfl (Or.inl rfl) (pe_lstA pa_nil)) (pss_cons (ps_for PassesOwn.never rfl (pi_list (@pe_lstA _ _ _ _ (@pa_cons _ _ _ _ _ (@pe_tupA _ _ _ _ _ (@pa_cons _ _ _ _ _ (pe_op op_add (pv 3) pe_int) (@pa_cons _ _ _ _ _ (pe_op op_add (pv 4) pe_int) pa_nil (by rfl)) (by rfl))) (@pa_cons _ _ _ _ _ (@pe_tupA _ _ _ _ _ (@pa_cons _ _ _ _ _ (pe_op op_add (pv 3) pe_int) (@pa_cons _ _ _ _ _ (pv 4) pa_nil (by rfl)) (by rfl))) (@pa_cons _ _ _ _ _ (@pe_tupA _ _ _ _ _ (@pa_cons _ _ _ _ _ (pv 3) (@pa_cons _ _ _ _ _ (pe_op op_add (pv 4) pe_int) pa_nil (by rfl)) (by rfl))) pa_nil (by rfl)) (by rfl)) (by rfl)))) (pg_name (i := 6) S_steps_on.nd rfl (Or.inl rfl)) (pss_one (ps_if (pw_and (pt_cmpR op_le (pe_ix ix_tup (pv 6) pe_int (fun _ _ => rfl)) (pe_ix ix_tup (pv 1) pe_int (fun _ _ => rfl)) (nomark _)) (pw_and (pt_cmpR op_le (pe_ix ix_tup (pv 6) pe_int (fun _ _ => rfl)) (pe_ix ix_tup (pv 1) pe_int (fun _ _ => rfl)) (nomark _)) (pw_and1 (pt_cmp (pc_dnotin (hu_of hr) (pv 6) (pv 0)) (by rfl))))).pt (pss_one (ps_expr (pe_bm PySem.F.plainAttrs_list PySem.F.slot_list_append PySem.F.type_list_append mt_appendA (pv 5) (pa_cons (pe_tupA (pa_cons (pv 6) (pa_cons pe_non pa_nil))) pa_nil)))) pss_nil))) (pss_one (ps_ret (pv 5))))))),?_⟩
    refine ⟨_,rfl,c,_,_,_,rfl,rfl,SqT.of hc,rfl,_,rfl,c,_,_,_,rfl,rfl,SqT.of hc,rfl,sz (by simp),fun r H1 s1 f1 n1 => ?_⟩
    refine ⟨_,rfl,_,_,rfl,rfl,_,rfl,_,_,rfl,rfl,sz (by simp),fun p1 H2 s2 f2 n2 => ?_⟩
    refine ⟨_,rfl,_,_,rfl,rfl,_,rfl,sz (by simp),fun p2 H3 s3 f3 n3 => ?_⟩
    refine ⟨_,rfl,_,rfl,_,_,rfl,rfl,sz (by simp),fun p3 H4 s4 f4 n4 => ⟨sz (by simp),fun w5 H5 s5 f5 n5 => ?_⟩⟩
    have S4 := (s2.trans s3).trans s4
    have S5 := S4.trans s5
    have fr1 : H5 r = some (.lst []) := S5 _ _ f1
    have wr : w5 ≠ r := fun z => by rw [z,S4 _ _ f1] at n5; cases n5
    have cs : Paired (fun (p : Int × Int) (v : V) => ∃ q,v = .ref q ∧ H5 q = some (.tup [.int p.1,.int p.2])) [(i + 1,j + 1),(i + 1,j),(i,j + 1)] [V.ref p1,V.ref p2,V.ref p3] :=
      .cons ⟨_,rfl,((s3.trans s4).trans s5) _ _ f2⟩ (.cons ⟨_,rfl,(s4.trans s5) _ _ f3⟩ (.cons ⟨_,rfl,s5 _ _ f4⟩ .nil))
    refine ⟨w5,rfl,⟨_,SqL.of f5⟩,for_list (K := K) (xs := [.ref p1,.ref p2,.ref p3]) (fun k σ H' => ∃ (z : Option V) (vs : List V),σ = [some (.ref d),some (.ref l),some (.ref c),some (.int i),some (.int j),some (.ref r),z] ∧ Same H H' ∧ SameT H5 H' ∧ H' w5 = some (.lst [.ref p1,.ref p2,.ref p3]) ∧ H' r = some (.lst vs) ∧
        Paired (fun (p : Int × Int) (v : V) => ∃ t sv,v = .ref t ∧ H' t = some (.tup [sv,.non]) ∧ SpotAt H' sv (ck p.1 p.2)) (([(i + 1,j + 1),(i + 1,j),(i,j + 1)].take k).filter fun p => decide (p.1 ≤ m) && (decide (p.2 ≤ n) && !decide (p ∈ farL m n F))) vs)
      ⟨_,[],rfl,s1.trans S5,SameT.refl,f5,fr1,.nil⟩ (fun k σ H' _ ⟨_,_,_,_,_,hw,_⟩ => SqL.of hw) ?_ ?_⟩
    · rintro k x σ H6 hx ⟨z,vs,rfl,s6,t6,w6,r6,pr⟩
      obtain ⟨p,hp,q,rfl,hq⟩ := paired_get' cs k x hx
      have hq6 := t6 _ _ hq
      have hl6 := s6 _ _ hl
      have tk : [(i + 1,j + 1),(i + 1,j),(i,j + 1)].take (k + 1) = [(i + 1,j + 1),(i + 1,j),(i,j + 1)].take k ++ [p] := by rw [List.take_add_one,hp]; rfl
      have vl : vs.length ≤ 3 := by
        rw [← Paired.length pr]
        exact Nat.le_trans (List.length_filter_le _ _) (by rw [List.length_take]; simp; omega)
      obtain ⟨o,dg,ho⟩ := (fd.mono s6).get (x := p.1) (y := p.2) hq6
      have skip : (decide (p.1 ≤ m) && (decide (p.2 ≤ n) && !decide (p ∈ farL m n F))) = false → ∃ (z : Option V) (vs : List V),[some (.ref d),some (.ref l),some (.ref c),some (.int i),some (.int j),some (.ref r),some (.ref q)] = [some (.ref d),some (.ref l),some (.ref c),some (.int i),some (.int j),some (.ref r),z] ∧ Same H H6 ∧ SameT H5 H6 ∧ H6 w5 = some (.lst [.ref p1,.ref p2,.ref p3]) ∧ H6 r = some (.lst vs) ∧
          Paired (fun (p : Int × Int) (v : V) => ∃ t sv,v = .ref t ∧ H6 t = some (.tup [sv,.non]) ∧ SpotAt H6 sv (ck p.1 p.2)) (([(i + 1,j + 1),(i + 1,j),(i,j + 1)].take (k + 1)).filter fun p => decide (p.1 ≤ m) && (decide (p.2 ≤ n) && !decide (p ∈ farL m n F))) vs := fun e => by
        refine ⟨_,vs,rfl,s6,t6,w6,r6,?_⟩
        rw [tk,List.filter_append,show [p].filter (fun (p : Int × Int) => decide (p.1 ≤ m) && (decide (p.2 ≤ n) && !decide (p ∈ farL m n F))) = [] by rw [List.filter_cons,e]; rfl,List.append_nil]
        exact pr
      refine ⟨_,rfl,q,_,_,_,rfl,rfl,SqT.of hq6,rfl,_,rfl,l,_,_,_,rfl,rfl,SqT.of hl6,rfl,_,_,rfl,rfl,_,rfl,ite3 (fun h1 => ?_) (fun h1 => iteF (skip (by rw [h1]; rfl)))⟩
      refine ⟨_,rfl,q,_,_,_,rfl,rfl,SqT.of hq6,rfl,_,rfl,l,_,_,_,rfl,rfl,SqT.of hl6,rfl,_,_,rfl,rfl,_,rfl,ite3 (fun h2 => ?_) (fun h2 => iteF (skip (by rw [h1,h2]; rfl)))⟩
      refine ⟨_,rfl,_,rfl,d,o,rfl,dg,_,rfl,ite3 (fun h3 => ?_) (fun h3 => skip (by rw [h1,h2,← ho,h3]; rfl))⟩
      have e : (decide (p.1 ≤ m) && (decide (p.2 ≤ n) && !decide (p ∈ farL m n F))) = true := by rw [h1,h2,← ho,h3]; rfl
      refine ⟨_,rfl,.inl ⟨rfl,_,SqL.of r6⟩,_,rfl,sz (by simp),fun t H7 s7 f7 n7 => ⟨r,_,_,rfl,rfl,s7 _ _ r6,small1000 (by omega),fun H8 u => ?_⟩⟩
      have T8 := s7.t.trans u.t
      have s8 : Same H H8 := fun x o eo => u.at (fun z => by rw [z,n1] at eo; cases eo) (s7 _ _ (s6 _ _ eo))
      refine ⟨_,_,rfl,s8,t6.trans T8,u.at wr (s7 _ _ w6),u.now,?_⟩
      rw [tk,List.filter_append,show [p].filter (fun (p : Int × Int) => decide (p.1 ≤ m) && (decide (p.2 ≤ n) && !decide (p ∈ farL m n F))) = [p] by rw [List.filter_cons,e]; rfl]
      exact Paired.snoc (Paired.mapP pr fun a b ⟨t,sv,x1,x2,x3⟩ => ⟨t,sv,x1,T8 _ _ x2,x3.mono T8⟩) ⟨t,.ref q,rfl,u.t _ _ f7,q,rfl,T8 _ _ hq6⟩
    · rintro σ H6 ⟨z,vs,rfl,s6,t6,w6,r6,pr⟩
      refine ⟨_,rfl,q r H6 s6 n1 ⟨vs,r6,?_⟩⟩
      have pm : ∀ {l : List (Int × Int)} {vs : List V},Paired (fun (p : Int × Int) (v : V) => ∃ t sv,v = .ref t ∧ H6 t = some (.tup [sv,.non]) ∧ SpotAt H6 sv (ck p.1 p.2)) l vs → Paired (fun (e : Spot × V) v => ∃ t sv,v = .ref t ∧ H6 t = some (.tup [sv,e.2]) ∧ SpotAt H6 sv e.1) (l.map fun p => (ck p.1 p.2,.non)) vs := by
        intro l vs p
        induction p with
        | nil => exact .nil
        | cons a r ih => exact .cons a ih
      exact pm pr
theorem S_steps_aside : FnScope ["far","corner","begin"] ["far","corner"] (defScope (top 27)) := ⟨rfl,rfl,rfl,by decide +kernel,rfl,by decide +kernel,by decide +kernel⟩
theorem fn_steps_aside (D_steps_aside : Df K mg "steps_aside" (top 27)) (F_hops_aside : Fn P w K mg base "hops_aside" ["begin","end"] 1 (spTwo asideB)) (F_pair_at_corner : Fn P w K mg base "pair_at_corner" ["corner"] 1 spPair1) : Fn P w K mg base "steps_aside" ["far","corner"] 2 spAs := by
  refine D_steps_aside.fn S_steps_aside (fun _ _ _ _ _ _ us hl => by obtain ⟨_,_,rfl⟩ := len2 hl; rfl) (fun vs H Q E h => ?_) (fun f cdv A outer s H vs Q E hr h => ?_)
  · obtain ⟨d,c,m,n,F,i,j,rfl,_⟩ := h
    rfl
  · obtain ⟨d,c,m,n,F,i,j,rfl,fd,bm,hc,bi,bj,q⟩ := h
    have CN : CompM (cxOf CX0 P w K mg base ["far","corner","begin"] "steps_aside" (defScope (top 27)) f cdv A outer s H E).nox (Sp7.retScope ((defBody (top 27)).getD 1 (.Pass ⟨0,0,0,0⟩))) [("begin",s.heap.objs.size + 1)] ["found"] [("begin",2)] :=
      ⟨by rfl,rfl,by decide +kernel,by decide +kernel,(fun x hx => by simp only [List.mem_cons,List.not_mem_nil,or_false] at hx; subst hx; rfl),(fun p hp => by simp only [List.mem_cons,List.not_mem_nil,or_false] at hp; subst hp; rfl),by rfl,by decide +kernel,(fun p hp => by simp only [List.mem_cons,List.not_mem_nil,or_false] at hp; subst hp; exact ⟨rfl,rfl,.inr (.inl rfl),rfl,rfl⟩),⟨rfl,rfl⟩,rfl⟩
    refine ⟨_,(pss_cons (ps_set (i := 2) S_steps_aside.nd rfl (Or.inr rfl) (pe_fn F_pair_at_corner (hr.mono (by decide)) (by rfl) (pa_cons (pv 1) pa_nil))) (pss_one (ps_ret (pe_compG rfl CN (pi_dict (pv 0)) (fun fp s₀ H₀ => (pg_name (i := 0) CN.nd rfl (Or.inl rfl) (Or.inr rfl))) (fun fp s₀ H₀ => (pts_one (pt_val (pe_fn F_hops_aside (hr.mono (by decide)) (by rfl) (pa_cons (pv 1) (pa_cons (pe_fn F_pair_at_corner (hr.mono (by decide)) (by rfl) (pa_cons (pv 0) pa_nil)) pa_nil)))))) (fun fp s₀ H₀ => (pe_tupA (pa_cons (pv 0) (pa_cons pe_non pa_nil)))))))),?_⟩
    refine ⟨_,rfl,c,i,j,rfl,hc,bi,bj,fun u H1 s1 pu cu => ?_⟩
    obtain ⟨o,ed⟩ := fd.mono s1
    refine ⟨_,rfl,d,o,_,rfl,ed,comp_dictF (k := 1) ed (by unfold kvF; rw [List.length_map]; have := farL_len (F := F) bm.1 bm.2; omega) (selC fun p => asideI (i,j) p) (fun e y H' => ∃ t sv,y = .ref t ∧ H' t = some (.tup [sv,.non]) ∧ SpotAt H' sv e.1) (fun e v H H' st ⟨t,sv,x1,x2,x3⟩ => ⟨t,sv,x1,st _ _ x2,x3.mono st⟩) ?_ ?_⟩
    · intro k e b H2 τ Kc Kn he hb s2 hτ kc kn
      obtain ⟨τ0,rfl⟩ : ∃ τ0,τ = [τ0] := len1 hτ
      have he' := List.mem_of_getElem? he
      unfold kvF at he'
      obtain ⟨p,hp,rfl⟩ := List.mem_map.mp he'
      obtain ⟨x,y⟩ := p
      obtain ⟨g1,g2,g3,g4,g5⟩ := mem_farL.mp hp
      refine ⟨⟨[some (.ref b)],rfl,rfl⟩,?_⟩
      refine ⟨_,rfl,_,rfl,b,x,y,rfl,hb,⟨g1,by omega⟩,⟨g3,by omega⟩,fun v H3 s3 pv cv => ?_⟩
      refine ⟨u,v,rfl,pu.t (s2.trans s3).t,pv,fun H4 s4 => ⟨_,rfl,?_⟩⟩
      have ea : asideB u v = asideI (i,j) (x,y) := by
        obtain ⟨h1,h2,h3,h4⟩ := cu
        obtain ⟨h5,h6,h7,h8⟩ := cv
        unfold asideB asideI
        rw [h1,h3,h5,h7]
      rw [ea]
      refine ite3 (fun h => ?_) (fun h => kn h H4 (s3.trans s4))
      refine ⟨_,rfl,sz (by simp),fun t H5 s5 f5 n5 => kc h _ H5 ((s3.trans s4).trans s5) ⟨t,.ref b,rfl,f5,b,rfl,((s3.trans s4).trans s5) _ _ hb⟩⟩
    · intro l ys H2 nl s2 f2 pr
      rw [kvF_filter] at pr
      refine q l H2 (s1.trans s2) (s1.free nl) ⟨ys,f2,?_⟩
      show Paired _ ((asL m n F i j).map fun p => (ck p.1 p.2,V.non)) ys
      exact paired_unmap (paired_map (f := fun (p : Int × Int) => (ck p.1 p.2,V.bl true)) pr)
theorem op_eqK {X : Cx} (h : X.A.units < cLine) (hk : X.K = K) : OpR X (compareOp .Eq) (rEqI K false) := hk ▸ op_eqI h
def qW : Str := "hops_walk" ++ ".<locals>." ++ "<lambda>"
def qF : Str := "hops_fence" ++ ".<locals>." ++ "<lambda>"
def laW : Expr := callArg ((defBody (top 26)).getD 1 (.Pass ⟨0,0,0,0⟩)) 1
def lbW : Expr := callArg ((defBody (top 26)).getD 1 (.Pass ⟨0,0,0,0⟩)) 2
def laF : Expr := callArg ((defBody (top 28)).getD 1 (.Pass ⟨0,0,0,0⟩)) 1
def lbF : Expr := callArg ((defBody (top 28)).getD 1 (.Pass ⟨0,0,0,0⟩)) 2
def lsW : List (Pos × Str) := [(lamPos laW,qW),(lamPos lbW,qW)]
def lsF : List (Pos × Str) := [(lamPos laF,qF),(lamPos lbF,qF)]
def spHw (t : Addr) : Sp := fun vs H Q _ => ∃ (d l : Addr) (m n : Nat) (F : Int → Int → Bool),vs = [.ref d,.ref l] ∧ Tab H t lsW ∧ FarD H d m n F ∧ H l = some (.tup [.int (m : Int),.int (n : Int)]) ∧ (m ≤ 20 ∧ n ≤ 20) ∧
  (∀ H',SameP t H H' → Tab H' t lsW → NoHop m n F → Q .non H') ∧ ∀ r H' ps,H r = none → SameP t H H' → Tab H' t lsW → HopW m n F ps → PairsAt H' r ps → Q (.ref r) H'
def spHf (t : Addr) : Sp := fun vs H Q _ => ∃ (d l : Addr) (m n : Nat) (F : Int → Int → Bool),vs = [.ref d,.ref l] ∧ Tab H t lsF ∧ FarD H d m n F ∧ H l = some (.tup [.int (m : Int),.int (n : Int)]) ∧ (m ≤ 20 ∧ n ≤ 20) ∧ NoHop m n F ∧
  ∀ r H' ps,H r = none → SameP t H H' → Tab H' t lsF → HopF m n F ps → PairsAt H' r ps → Q (.ref r) H'
theorem sameP_free {p : Addr} {H H' : Hp} {b : Addr} {ls : List (Pos × Str)} (s : SameP p H H') (t : Tab H' p ls) (n : H' b = none) : H b = none := by
  cases e : H b with
  | none => rfl
  | some o =>
    by_cases z : b = p
    · obtain ⟨ps,e1,_⟩ := t
      rw [z,e1] at n
      cases n
    · rw [s b o z e] at n
      cases n
def SameN (H H' : Hp) : Prop := ∀ b o,H b = some o → (∀ ps,o ≠ .tbl ps) → H' b = some o
theorem SameN.of {H H' : Hp} (s : Same H H') : SameN H H' := fun b o e _ => s b o e
theorem SameN.refl (H : Hp) : SameN H H := fun _ _ e _ => e
theorem SameN.trans {H H1 H2 : Hp} (a : SameN H H1) (b : SameN H1 H2) : SameN H H2 := fun c o e n => b c o (a c o e n) n
theorem SameN.t {H H' : Hp} (s : SameN H H') {b : Addr} {xs : List V} (e : H b = some (.tup xs)) : H' b = some (.tup xs) := s b _ e fun ps q => by cases q
theorem SameN.l {H H' : Hp} (s : SameN H H') {b : Addr} {xs : List V} (e : H b = some (.lst xs)) : H' b = some (.lst xs) := s b _ e fun ps q => by cases q
theorem SameN.line {H H' : Hp} (s : SameN H H') {l : Addr} {qs : Crn} (L : LineM H l qs) : LineM H' l qs := ⟨s.l L.lst,fun q hq => ⟨s.t (L.crn q hq).1,(L.crn q hq).2⟩⟩
theorem SameP.n {p : Addr} {H H' : Hp} {ls : List (Pos × Str)} (s : SameP p H H') (t : Tab H p ls) : SameN H H' := fun b o e n => s.keep t e n
structure Tabs (H : Hp) (tw tf : Addr) : Prop where
  w : Tab H tw lsW
  f : Tab H tf lsF
  ne : tw ≠ tf
theorem Tabs.same {H H' : Hp} {tw tf : Addr} (t : Tabs H tw tf) (s : Same H H') : Tabs H' tw tf := ⟨t.w.same s,t.f.same s,t.ne⟩
def lastN (qs : Crn) : Nat := qs.length - 1
def spGo (C tw tf : Addr) : Sp := fun vs H Q E => ∃ (l1 l2 : Addr) (qs1 qs2 : Crn) (x : V),vs = [.ref l1,.ref l2,x] ∧ LineM H l1 qs1 ∧ LineM H l2 qs2 ∧ (1 ≤ qs1.length ∧ qs1.length ≤ 20) ∧ (1 ≤ qs2.length ∧ qs2.length ≤ 20) ∧ Thing H x ∧
  ((sqV H x = false ∧ E (.ref C) none H) ∨ (sqV H x = true ∧ ∃ (p : Addr) (a b : Int),x = .ref p ∧ Sq H p a b ∧ Tabs H tw tf ∧ ∀ (t r : Addr) (H' : Hp) (ps : List Pr),H r = none → H t = none → t ≠ r → SameN H H' → Tabs H' tw tf → PairsAt H' r ps →
    ((H' t = some (.tup [.str "walk",.ref r]) ∧ HopW (lastN qs1) (lastN qs2) (farB qs1 qs2 a b 0) ps) ∨ (H' t = some (.tup [.str "fence",.ref r]) ∧ HopF (lastN qs1) (lastN qs2) (farB qs1 qs2 a b 0) ps)) → Q (.ref t) H'))
theorem S_hops_walk : FnScope ["far","last","row"] ["far","last"] (defScope (top 26)) := ⟨rfl,rfl,rfl,by decide +kernel,rfl,by decide +kernel,by decide +kernel⟩
theorem fn_hops_walk {t_hops_walk : Addr} (D_hops_walk : DfT K mg "hops_walk" (top 26) t_hops_walk) (BF : BltF K mg) (F_seek : Fn P w K mg base "seek" ["begins","steps_from","is_end"] 5 (spSeek P w K mg base 3)) (F_steps_on : Fn P w K mg base "steps_on" ["far","last","corner"] 2 spOn) (F_pair_at_corner : Fn P w K mg base "pair_at_corner" ["corner"] 1 spPair1) (T : Txt mg) : Fn P w K mg base "hops_walk" ["far","last"] 6 (spHw t_hops_walk) := by
  refine D_hops_walk.fn S_hops_walk (fun _ _ _ _ _ _ us hl => by obtain ⟨_,_,rfl⟩ := len2 hl; rfl) (fun vs H Q E h => ?_) (fun f cdv A outer s H vs Q E CF hr h => ?_)
  · obtain ⟨d,l,m,n,F,rfl,_⟩ := h
    rfl
  · obtain ⟨d,l,m,n,F,rfl,tb,fd,hl,bm,q0,q1⟩ := h
    obtain ⟨c,ec,CF⟩ := CF
    have CL_a : closureFor (lamScope laW) (cxOf CX0 P w K mg base ["far","last","row"] "hops_walk" (defScope (top 26)) f cdv A outer s H E).nox.env = pure ([("last",s.heap.objs.size + 2),("far",s.heap.objs.size + 1)] : List (Str × Addr)) := by rfl
    have CL_b : closureFor (lamScope lbW) (cxOf CX0 P w K mg base ["far","last","row"] "hops_walk" (defScope (top 26)) f cdv A outer s H E).nox.env = pure ([("last",s.heap.objs.size + 2)] : List (Str × Addr)) := by rfl
    have CM_a : (lamPos laW,qW) ∈ lsW := List.mem_cons_self
    have CM_b : (lamPos lbW,qW) ∈ lsW := List.mem_cons_of_mem _ List.mem_cons_self
    have CD_a : ∀ l ∈ lsW,l ≠ (lamPos laW,qW) → ¬ (l.1.line = (lamPos laW).line ∧ l.1.col = (lamPos laW).col) := by
      intro l hl ne
      rcases List.mem_cons.mp hl with rfl | hl
      · exact absurd rfl ne
      · rw [List.mem_singleton.mp hl]
        decide +kernel
    have CD_b : ∀ l ∈ lsW,l ≠ (lamPos lbW,qW) → ¬ (l.1.line = (lamPos lbW).line ∧ l.1.col = (lamPos lbW).col) := by
      intro l hl ne
      rcases List.mem_cons.mp hl with rfl | hl
      · decide +kernel
      · rw [List.mem_singleton.mp hl] at ne
        exact absurd rfl ne
    have CS : ∀ p ∈ [((s.heap.objs.size + 1 : Addr),0),(s.heap.objs.size + 2,1)],∃ y,(cxOf CX0 P w K mg base ["far","last","row"] "hops_walk" (defScope (top 26)) f cdv A outer s H E).nox.env.cells.lookup y = some p.1 ∧ (cxOf CX0 P w K mg base ["far","last","row"] "hops_walk" (defScope (top 26)) f cdv A outer s H E).nox.N[p.2]? = some y ∧ (cxOf CX0 P w K mg base ["far","last","row"] "hops_walk" (defScope (top 26)) f cdv A outer s H E).nox.env.kindOf y = some .cell ∧ Vis (cxOf CX0 P w K mg base ["far","last","row"] "hops_walk" (defScope (top 26)) f cdv A outer s H E).nox.env.scope y := by
      intro p hp
      simp only [List.mem_cons,List.not_mem_nil,or_false] at hp
      rcases hp with rfl | rfl
      · exact ⟨"far",rfl,rfl,rfl,.inr (.inl rfl)⟩
      · exact ⟨"last",rfl,rfl,rfl,.inr (.inl rfl)⟩
    have CN : CompN (cxOf CX0 P w K mg base ["far","last","row"] "hops_walk" (defScope (top 26)) f cdv A outer s H E).nox (Sp7.retScope ((defBody (top 26)).getD 3 (.Pass ⟨0,0,0,0⟩))) [] "step" [] :=
      ⟨by rfl,rfl,by decide +kernel,by decide +kernel,rfl,(fun p hp => nomatch hp),by rfl,by decide +kernel,(fun p hp => nomatch hp),⟨rfl,rfl⟩,rfl⟩
    refine ⟨_,(pss_cons (ps_if (pt_cmp (pc_din (hu_of hr) (pe_tupA (pa_cons pe_int (pa_cons pe_int pa_nil))) (pv 0)) (by rfl)) (pss_one (ps_ret pe_non)) pss_nil) (pss_cons (ps_set (i := 2) S_hops_walk.nd rfl (Or.inl rfl) (pe_fnL F_seek (hr.mono (by decide)) (by rfl) (fun _ => rfl) CS (pa_cons (@pe_lstA _ _ _ _ (@pa_cons _ _ _ _ _ (@pe_tupA _ _ _ _ _ (@pa_cons _ _ _ _ _ pe_int (@pa_cons _ _ _ _ _ pe_int pa_nil (by rfl)) (by rfl))) pa_nil (by rfl))) (pa_cons (pe_lam CL_a ec CF BF rfl rfl CM_a CD_a) (pa_cons (pe_lam CL_b ec CF BF rfl rfl CM_b CD_b) pa_nil))))) (pss_cons (ps_if (pt_cmpR op_isN (pv 2) pe_non (nomark _)) (pss_one (ps_ret pe_non)) pss_nil) (pss_one (ps_ret (pe_compA rfl CN (pi_list (pv 2)) (fun fp s₀ H₀ => (pe_fn F_pair_at_corner (hr.mono (by decide)) (by rfl) (pa_cons (pe_ix (ix_tupK (K := K) rfl) (pv 0) pe_int (fun _ _ => rfl)) pa_nil))))))))),?_⟩
    refine ⟨sz (by simp),fun p0 H1 s1 f1 n1 => ⟨_,rfl,?_⟩⟩
    obtain ⟨o,dg,ho⟩ := (fd.mono s1).get (x := 0) (y := 0) f1
    refine ⟨d,o,rfl,dg,_,rfl,ite3 (fun h0 => ?_) (fun h0 => ?_)⟩
    · rw [ho,decide_eq_true_iff] at h0
      exact q0 H1 s1.p (tb.same s1) (.inl (mem_farL.mp h0).2.2.2.2)
    have F0 : F 0 0 = false := by
      rw [ho,decide_eq_false_iff_not] at h0
      cases e : F 0 0 with
      | false => rfl
      | true => exact absurd (mem_farL.mpr ⟨by simp,by simp,by simp,by simp,e⟩) h0
    refine ⟨sz (by simp),fun p1 H2 s2 f2 n2 => ⟨sz (by simp),fun b H3 s3 f3 n3 => ?_⟩⟩
    have S3 := (s1.trans s2).trans s3
    have tb3 := tb.same S3
    refine ⟨tb3,fun fa H4 P4 tb4 la4 nfa => ⟨tb4,fun fb H5 P5 tb5 lb5 nfb => fun H6 s6 cells => ?_⟩⟩
    have kp : ∀ {x : Addr} {ob : HO},H3 x = some ob → (∀ ps,ob ≠ .tbl ps) → H6 x = some ob := fun e n => s6 _ _ (P5.keep tb4 (P4.keep tb3 e n) n)
    have c1 := cells (s.heap.objs.size + 1,0) List.mem_cons_self (.ref d) rfl
    have c2 := cells (s.heap.objs.size + 2,1) (List.mem_cons_of_mem _ List.mem_cons_self) (.ref l) rfl
    have la6 := (la4.same fun x ob e => P5.keep tb4 e (fun ps q => by cases q)).same fun x ob e => s6 _ _ e
    have lb6 := lb5.same fun x ob e => s6 _ _ e
    have d6 : FarD H6 d m n F := by
      obtain ⟨o,e⟩ := fd.mono S3
      exact ⟨o,kp e (fun ps q => by cases q)⟩
    have l6 := kp (S3 _ _ hl) (fun ps q => by cases q)
    have FN : Fns P w K mg base 3 H6 fa fb (U m n) (onS m n F) (finW m n) := by
      refine ⟨la6.obj,lb6.obj,?_,?_,on_shut,on_few⟩
      · obtain ⟨pm,cc,ct,ea,ck6⟩ := la6
        have LN : LamN "corner" (lamScope laW) [("last",s.heap.objs.size + 2),("far",s.heap.objs.size + 1)] := by
          refine ⟨rfl,rfl,rfl,by decide +kernel,rfl,by rfl,?_,fun p hp => ?_,fun p hp q hq e => ?_⟩
          · show (["corner","last","far"] : List Str).Nodup
            decide +kernel
          · simp only [List.mem_cons,List.not_mem_nil,or_false] at hp
            rcases hp with rfl | rfl <;> rfl
          · simp only [List.mem_cons,List.not_mem_nil,or_false] at hp hq
            have e1 : s.heap.objs.size + 2 ≠ s.heap.objs.size + 1 := by omega
            rcases hp with rfl | rfl
            · rcases hq with rfl | rfl
              · rfl
              · exact absurd e e1
            · rcases hq with rfl | rfl
              · exact absurd e.symm e1
              · rfl
        refine ⟨_,⟨_,["corner"],lam_fn (P := P) (w := w) (K := K) (mg := mg) (base := base) (x := "corner") (q := qW) (params := lamArgs laW) (body := lamBody laW) (scope := lamScope laW) (pm := pm) (ctv := ct) (f := fa) (c := cc) (k := 2) LN (fun A2 o2 s2 H2 hr2 => pe_fn F_steps_on (hr2.mono (by decide)) (by rfl) (pa_cons (pv 2) (pa_cons (pv 1) (pa_cons (pv 0) pa_nil)))),.all fun us hl => by obtain ⟨_,rfl⟩ := len1 hl; rfl⟩,?_⟩
        intro H' v sp Q' s' hv hU k
        obtain ⟨x,y,rfl,_⟩ := mem_U.mp hU
        obtain ⟨p,rfl,hp⟩ := hv
        have cs : Paired (fun (p : Str × Addr) z => CellAt H' p.2 z) [("last",s.heap.objs.size + 2),("far",s.heap.objs.size + 1)] [.ref l,.ref d] := .cons (c2.mono s') (.cons (c1.mono s') .nil)
        have hC := cells_kn cs
        have CK : CodeK H' cc qW := by
          obtain ⟨o,vs,t,e,r⟩ := ck6
          exact ⟨o,vs,t,s' _ _ e,r⟩
        refine ⟨.ref p,[.ref l,.ref d],rfl,s' _ _ ea,CK,cs,?_⟩
        obtain ⟨o,ed⟩ := d6.mono s'
        refine ⟨_,rfl,_,rfl,_,rfl,d,l,p,m,n,F,x,y,rfl,⟨o,cut_keep hC ed (fun z q => by cases q)⟩,cut_keep hC (s' _ _ l6) (fun z q => by cases q),cut_keep hC hp (fun z q => by cases q),fun r H1 s1 nr st hC1 => ?_⟩
        refine k r _ (putc_same s1) ?_ (road_putc hC1 st)
        obtain ⟨vs,er,_⟩ := st
        rw [cut_out fun z => by rw [hC1 r z] at er; cases er] at nr
        exact nr
      · obtain ⟨pm,cc,ct,ea,ck6⟩ := lb6
        have LN : LamN "spot" (lamScope lbW) [("last",s.heap.objs.size + 2)] := by
          refine ⟨rfl,rfl,rfl,by decide +kernel,rfl,by rfl,?_,fun p hp => ?_,fun p hp q hq e => ?_⟩
          · show (["spot","last"] : List Str).Nodup
            decide +kernel
          · rw [List.mem_singleton.mp hp]
            rfl
          · rw [List.mem_singleton.mp hp,List.mem_singleton.mp hq]
        refine ⟨_,⟨_,["spot"],lam_fn (P := P) (w := w) (K := K) (mg := mg) (base := base) (x := "spot") (q := qW) (params := lamArgs lbW) (body := lamBody lbW) (scope := lamScope lbW) (pm := pm) (ctv := ct) (f := fb) (c := cc) (k := 2) LN (fun A2 o2 s2 H2 hr2 => pe_cmpR (op_eqK hr2.units0 rfl) (pv 0) (pv 1) (nomark _)),.all fun us hl => by obtain ⟨_,rfl⟩ := len1 hl; rfl⟩,?_⟩
        intro H' v sp Q' s' hv hU k
        obtain ⟨x,y,rfl,_⟩ := mem_U.mp hU
        obtain ⟨p,rfl,hp⟩ := hv
        have cs : Paired (fun (p : Str × Addr) z => CellAt H' p.2 z) [("last",s.heap.objs.size + 2)] [.ref l] := .cons (c2.mono s') .nil
        have hC := cells_kn cs
        have CK : CodeK H' cc qW := by
          obtain ⟨o,vs,t,e,r⟩ := ck6
          exact ⟨o,vs,t,s' _ _ e,r⟩
        refine ⟨.ref p,[.ref l],rfl,s' _ _ ea,CK,cs,?_⟩
        refine ⟨_,rfl,_,rfl,p,l,[x,y],[(m : Int),(n : Int)],rfl,rfl,SqT.of (cut_keep hC hp (fun z q => by cases q)),SqT.of (cut_keep hC (s' _ _ l6) (fun z q => by cases q)),fun hC1 => ?_⟩
        have e : (if false = true then !decide ([x,y] = [(m : Int),(n : Int)]) else decide ([x,y] = [(m : Int),(n : Int)])) = finW m n (ck x y) := by
          rw [if_neg Bool.false_ne_true]
          unfold finW ck
          simp
        rw [e]
        exact k _ (putc_same (Same.refl _))
    have SP5 : SameP t_hops_walk H H5 := (S3.p.trans P4).trans P5
    refine ⟨b,fa,fb,[.ref p1],[ck 0 0],U m n,onS m n F,finW m n,rfl,kp f3 (fun ps q => by cases q),.cons ⟨p1,rfl,kp (s3 _ _ f2) (fun ps q => by cases q)⟩ .nil,by simp,(fun x hx => by rw [List.mem_singleton.mp hx]; exact mem_U.mpr ⟨0,0,rfl,by simp,by simp,by simp,by simp⟩),U_small bm.1 bm.2,FN,?_,?_⟩
    · intro H7 s7 sh H8 k1 k2
      have S8 : Same H5 H8 := fun x ob e => k2 x ob e (s7 _ _ (s6 _ _ e))
      exact ⟨_,rfl,rfl,_,rfl,iteT (q0 H8 (SP5.trans S8.p) (tb5.same S8) (.inr sh))⟩
    · intro r H7 lst s7 road fnd hlen ra H8 k1 k2
      have S8 : Same H5 H8 := fun x ob e => k2 x ob e (s7 _ _ (s6 _ _ e))
      have hU := U_small bm.1 bm.2
      obtain ⟨vs,hr8,pr8⟩ := road_kn k1 ra
      have vl := Paired.length pr8
      have inU := road_in road (U := U m n) (fun s hs => by rw [List.mem_singleton.mp hs]; exact mem_U.mpr ⟨0,0,rfl,by simp,by simp,by simp,by simp⟩) on_shut
      refine ⟨_,rfl,rfl,_,rfl,iteF ?_⟩
      refine ⟨_,rfl,r,rfl,⟨_,SqL.of hr8⟩,comp_R (K := K) (SqL.of hr8) (by omega) (fun i v H' => ∃ q e,lst[i]? = some e ∧ v = V.ref q.p ∧ PrAt H' q ∧ prC q (dec e.1)) (fun i v H H' st h => by obtain ⟨q,e,x1,x2,x3,x4⟩ := h; exact ⟨q,e,x1,x2,x3.t st,x4⟩) ?_ ?_⟩
      · intro i x H9 Kc hx s9 kc
        obtain ⟨e,he,t,sv,rfl,ht,c,rfl,hc⟩ := paired_get' pr8 i x hx
        obtain ⟨x,y,ex,g1,g2,g3,g4⟩ := mem_U.mp (inU i e he)
        rw [ex] at hc
        refine ⟨_,rfl,t,_,_,_,rfl,rfl,SqT.of (s9 _ _ ht),rfl,c,x,y,rfl,s9 _ _ hc,⟨g1,by omega⟩,⟨g3,by omega⟩,fun q H10 s10 pq cq => kc _ H10 s10 ⟨q,e,he,rfl,pq,?_⟩⟩
        rw [ex]
        exact cq
      · intro lr ys H9 nl s9 f9 hlen9 hr9
        obtain ⟨ps,rfl,hp⟩ := prL_of (l := lst) (ys := ys) (by omega) hr9
        exact q1 lr H9 ps (sameP_free (SP5.trans S8.p) (tb5.same S8) nl) ((SP5.trans S8.p).trans s9.p) (tb5.same (S8.trans s9)) (walk_of F0 road fnd (by omega) hp) (hp.at f9)
theorem beg_nodup {m n : Nat} {F : Int → Int → Bool} : ((begL m n F).map fun p => ck p.1 p.2).Nodup := by
  have nd : (begL m n F).Nodup := by
    unfold begL farL
    exact List.Pairwise.filter _ farP_nodup
  refine List.pairwise_map.mpr (List.Pairwise.imp (fun {a b} h z => h ?_) nd)
  obtain ⟨z1,z2⟩ := ck_inj z
  exact Prod.ext z1 z2
theorem S_hops_fence : FnScope ["far","last","begins","row"] ["far","last"] (defScope (top 28)) := ⟨rfl,rfl,rfl,by decide +kernel,rfl,by decide +kernel,by decide +kernel⟩
theorem fn_hops_fence {t_hops_fence : Addr} (D_hops_fence : DfT K mg "hops_fence" (top 28) t_hops_fence) (BF : BltF K mg) (F_seek : Fn P w K mg base "seek" ["begins","steps_from","is_end"] 5 (spSeek P w K mg base 3)) (F_steps_aside : Fn P w K mg base "steps_aside" ["far","corner"] 2 spAs) (F_begins_fence : Fn P w K mg base "begins_fence" ["corner","last","way"] 1 spBeg) (F_ends_fence : Fn P w K mg base "ends_fence" ["corner","last","way"] 1 spEnd) (F_pair_at_corner : Fn P w K mg base "pair_at_corner" ["corner"] 1 spPair1) (T : Txt mg) : Fn P w K mg base "hops_fence" ["far","last"] 6 (spHf t_hops_fence) := by
  refine D_hops_fence.fn S_hops_fence (fun _ _ _ _ _ _ us hl => by obtain ⟨_,_,rfl⟩ := len2 hl; rfl) (fun vs H Q E h => ?_) (fun f cdv A outer s H vs Q E CF hr h => ?_)
  · obtain ⟨d,l,m,n,F,rfl,_⟩ := h
    rfl
  · obtain ⟨d,l,m,n,F,rfl,tb,fd,hl,bm,nh,q1⟩ := h
    obtain ⟨c,ec,CF⟩ := CF
    have CL_a : closureFor (lamScope laF) (cxOf CX0 P w K mg base ["far","last","begins","row"] "hops_fence" (defScope (top 28)) f cdv A outer s H E).nox.env = pure ([("far",s.heap.objs.size + 1)] : List (Str × Addr)) := by rfl
    have CL_b : closureFor (lamScope lbF) (cxOf CX0 P w K mg base ["far","last","begins","row"] "hops_fence" (defScope (top 28)) f cdv A outer s H E).nox.env = pure ([("last",s.heap.objs.size + 2)] : List (Str × Addr)) := by rfl
    have CM_a : (lamPos laF,qF) ∈ lsF := List.mem_cons_self
    have CM_b : (lamPos lbF,qF) ∈ lsF := List.mem_cons_of_mem _ List.mem_cons_self
    have CD_a : ∀ l ∈ lsF,l ≠ (lamPos laF,qF) → ¬ (l.1.line = (lamPos laF).line ∧ l.1.col = (lamPos laF).col) := by
      intro l hl ne
      rcases List.mem_cons.mp hl with rfl | hl
      · exact absurd rfl ne
      · rw [List.mem_singleton.mp hl]
        decide +kernel
    have CD_b : ∀ l ∈ lsF,l ≠ (lamPos lbF,qF) → ¬ (l.1.line = (lamPos lbF).line ∧ l.1.col = (lamPos lbF).col) := by
      intro l hl ne
      rcases List.mem_cons.mp hl with rfl | hl
      · decide +kernel
      · rw [List.mem_singleton.mp hl] at ne
        exact absurd rfl ne
    have CS : ∀ p ∈ [((s.heap.objs.size + 1 : Addr),0),(s.heap.objs.size + 2,1)],∃ y,(cxOf CX0 P w K mg base ["far","last","begins","row"] "hops_fence" (defScope (top 28)) f cdv A outer s H E).nox.env.cells.lookup y = some p.1 ∧ (cxOf CX0 P w K mg base ["far","last","begins","row"] "hops_fence" (defScope (top 28)) f cdv A outer s H E).nox.N[p.2]? = some y ∧ (cxOf CX0 P w K mg base ["far","last","begins","row"] "hops_fence" (defScope (top 28)) f cdv A outer s H E).nox.env.kindOf y = some .cell ∧ Vis (cxOf CX0 P w K mg base ["far","last","begins","row"] "hops_fence" (defScope (top 28)) f cdv A outer s H E).nox.env.scope y := by
      intro p hp
      simp only [List.mem_cons,List.not_mem_nil,or_false] at hp
      rcases hp with rfl | rfl
      · exact ⟨"far",rfl,rfl,rfl,.inr (.inl rfl)⟩
      · exact ⟨"last",rfl,rfl,rfl,.inr (.inl rfl)⟩
    have CB : CompM (cxOf CX0 P w K mg base ["far","last","begins","row"] "hops_fence" (defScope (top 28)) f cdv A outer s H E).nox (setScope ((defBody (top 28)).getD 0 (.Pass ⟨0,0,0,0⟩))) [("last",s.heap.objs.size + 2)] ["corner"] [("last",1)] :=
      ⟨by rfl,rfl,by decide +kernel,by decide +kernel,(fun x hx => by simp only [List.mem_cons,List.not_mem_nil,or_false] at hx; subst hx; rfl),(fun p hp => by simp only [List.mem_cons,List.not_mem_nil,or_false] at hp; subst hp; rfl),by rfl,by decide +kernel,(fun p hp => by simp only [List.mem_cons,List.not_mem_nil,or_false] at hp; subst hp; exact ⟨rfl,rfl,.inr (.inl rfl),rfl,rfl⟩),⟨rfl,rfl⟩,rfl⟩
    have CN : CompN (cxOf CX0 P w K mg base ["far","last","begins","row"] "hops_fence" (defScope (top 28)) f cdv A outer s H E).nox (Sp7.retScope ((defBody (top 28)).getD 2 (.Pass ⟨0,0,0,0⟩))) [] "step" [] :=
      ⟨by rfl,rfl,by decide +kernel,by decide +kernel,rfl,(fun p hp => nomatch hp),by rfl,by decide +kernel,(fun p hp => nomatch hp),⟨rfl,rfl⟩,rfl⟩
    refine ⟨_,(pss_cons (ps_setCompG (j := 2) rfl CB S_hops_fence.nd rfl rfl (pi_dict (pv 0)) (fun fp s₀ H₀ => (pg_name (i := 0) CB.nd rfl (Or.inl rfl) (Or.inr rfl))) (fun fp s₀ H₀ => (pts_one (pt_val (pe_fn F_begins_fence (hr.mono (by decide)) (by rfl) (pa_cons (pv 0) (pa_cons (pv 1) (pa_cons pe_str pa_nil))))))) (fun fp s₀ H₀ => (pv 0))) (pss_cons (ps_set (i := 3) S_hops_fence.nd rfl (Or.inl rfl) (pe_fnL F_seek (hr.mono (by decide)) (by rfl) (fun _ => rfl) CS (pa_cons (pv 2) (pa_cons (pe_lam CL_a ec CF BF rfl rfl CM_a CD_a) (pa_cons (pe_lam CL_b ec CF BF rfl rfl CM_b CD_b) pa_nil))))) (pss_one (ps_ret (pe_compA rfl CN (pi_list (pv 3)) (fun fp s₀ H₀ => (pe_fn F_pair_at_corner (hr.mono (by decide)) (by rfl) (pa_cons (pe_ix (ix_tupK (K := K) rfl) (pv 0) pe_int (fun _ _ => rfl)) pa_nil)))))))),?_⟩
    obtain ⟨o,ed⟩ := id fd
    refine ⟨_,rfl,d,o,_,rfl,ed,comp_dictF (k := 1) ed (by unfold kvF; rw [List.length_map]; have := farL_len (F := F) bm.1 bm.2; omega) (selC fun p => decide (p.2 = n) || decide (p.1 = 0)) (fun e y H' => SpotAt H' y e.1) (fun e v H H' st h => h.mono st) ?_ ?_⟩
    · intro k e b H2 τ Kc Kn he hb s2 hτ kc kn
      obtain ⟨τ0,rfl⟩ : ∃ τ0,τ = [τ0] := len1 hτ
      have he' := List.mem_of_getElem? he
      unfold kvF at he'
      obtain ⟨p,hp,rfl⟩ := List.mem_map.mp he'
      obtain ⟨x,y⟩ := p
      refine ⟨⟨[some (.ref b)],rfl,rfl⟩,?_⟩
      refine ⟨_,rfl,_,rfl,b,l,x,y,m,n,rfl,hb,s2 _ _ hl,_,rfl,ite3 (fun h => ?_) (fun h => kn h H2 (Same.refl _))⟩
      exact ⟨_,rfl,kc h _ H2 (Same.refl _) ⟨b,rfl,hb⟩⟩
    intro bl bvs H3 nb S3 f3 prb
    rw [kvF_filter] at prb
    have pb3 : Paired (fun s v => SpotAt H3 v s) ((begL m n F).map fun p => ck p.1 p.2) bvs := paired_unmap (paired_map (f := fun (p : Int × Int) => (ck p.1 p.2,V.bl true)) prb)
    have tb3 := tb.same S3
    refine ⟨_,rfl,tb3,fun fa H4 P4 tb4 la4 nfa => ⟨tb4,fun fb H5 P5 tb5 lb5 nfb => fun H6 s6 cells => ?_⟩⟩
    have kp : ∀ {x : Addr} {ob : HO},H3 x = some ob → (∀ ps,ob ≠ .tbl ps) → H6 x = some ob := fun e n => s6 _ _ (P5.keep tb4 (P4.keep tb3 e n) n)
    have c1 := cells (s.heap.objs.size + 1,0) List.mem_cons_self (.ref d) rfl
    have c2 := cells (s.heap.objs.size + 2,1) (List.mem_cons_of_mem _ List.mem_cons_self) (.ref l) rfl
    have la6 := (la4.same fun x ob e => P5.keep tb4 e (fun ps q => by cases q)).same fun x ob e => s6 _ _ e
    have lb6 := lb5.same fun x ob e => s6 _ _ e
    have d6 : FarD H6 d m n F := by
      obtain ⟨o,e⟩ := fd.mono S3
      exact ⟨o,kp e (fun ps q => by cases q)⟩
    have l6 := kp (S3 _ _ hl) (fun ps q => by cases q)
    have bU : ∀ s ∈ (begL m n F).map fun p => ck p.1 p.2,s ∈ U m n := fun s hs => by
      obtain ⟨p,hp,rfl⟩ := List.mem_map.mp hs
      obtain ⟨g1,g2,g3,g4,_⟩ := mem_farL.mp (List.mem_filter.mp hp).1
      exact mem_U.mpr ⟨_,_,rfl,g1,g2,g3,g4⟩
    have FN : Fns P w K mg base 3 H6 fa fb (U m n) (asS m n F) (finF m) := by
      refine ⟨la6.obj,lb6.obj,?_,?_,as_shut,as_few bm.1 bm.2⟩
      · obtain ⟨pm,cc,ct,ea,ck6⟩ := la6
        have LN : LamN "corner" (lamScope laF) [("far",s.heap.objs.size + 1)] := by
          refine ⟨rfl,rfl,rfl,by decide +kernel,rfl,by rfl,?_,fun p hp => ?_,fun p hp q hq e => ?_⟩
          · show (["corner","far"] : List Str).Nodup
            decide +kernel
          · rw [List.mem_singleton.mp hp]
            rfl
          · rw [List.mem_singleton.mp hp,List.mem_singleton.mp hq]
        refine ⟨_,⟨_,["corner"],lam_fn (P := P) (w := w) (K := K) (mg := mg) (base := base) (x := "corner") (q := qF) (params := lamArgs laF) (body := lamBody laF) (scope := lamScope laF) (pm := pm) (ctv := ct) (f := fa) (c := cc) (k := 2) LN (fun A2 o2 s2 H2 hr2 => pe_fn F_steps_aside (hr2.mono (by decide)) (by rfl) (pa_cons (pv 1) (pa_cons (pv 0) pa_nil))),.all fun us hl => by obtain ⟨_,rfl⟩ := len1 hl; rfl⟩,?_⟩
        intro H' v sp Q' s' hv hU k
        obtain ⟨x,y,rfl,g1,g2,g3,g4⟩ := mem_U.mp hU
        obtain ⟨p,rfl,hp⟩ := hv
        have cs : Paired (fun (p : Str × Addr) z => CellAt H' p.2 z) [("far",s.heap.objs.size + 1)] [.ref d] := .cons (c1.mono s') .nil
        have hC := cells_kn cs
        have CK : CodeK H' cc qF := by
          obtain ⟨o,vs,t,e,r⟩ := ck6
          exact ⟨o,vs,t,s' _ _ e,r⟩
        refine ⟨.ref p,[.ref d],rfl,s' _ _ ea,CK,cs,?_⟩
        obtain ⟨o,ed⟩ := d6.mono s'
        refine ⟨_,rfl,_,rfl,d,p,m,n,F,x,y,rfl,⟨o,cut_keep hC ed (fun z q => by cases q)⟩,bm,cut_keep hC hp (fun z q => by cases q),⟨g1,by omega⟩,⟨g3,by omega⟩,fun r H1 s1 nr st hC1 => ?_⟩
        refine k r _ (putc_same s1) ?_ (road_putc hC1 st)
        obtain ⟨vs,er,_⟩ := st
        rw [cut_out fun z => by rw [hC1 r z] at er; cases er] at nr
        exact nr
      · obtain ⟨pm,cc,ct,ea,ck6⟩ := lb6
        have LN : LamN "spot" (lamScope lbF) [("last",s.heap.objs.size + 2)] := by
          refine ⟨rfl,rfl,rfl,by decide +kernel,rfl,by rfl,?_,fun p hp => ?_,fun p hp q hq e => ?_⟩
          · show (["spot","last"] : List Str).Nodup
            decide +kernel
          · rw [List.mem_singleton.mp hp]
            rfl
          · rw [List.mem_singleton.mp hp,List.mem_singleton.mp hq]
        refine ⟨_,⟨_,["spot"],lam_fn (P := P) (w := w) (K := K) (mg := mg) (base := base) (x := "spot") (q := qF) (params := lamArgs lbF) (body := lamBody lbF) (scope := lamScope lbF) (pm := pm) (ctv := ct) (f := fb) (c := cc) (k := 2) LN (fun A2 o2 s2 H2 hr2 => pe_fn F_ends_fence (hr2.mono (by decide)) (by rfl) (pa_cons (pv 0) (pa_cons (pv 1) (pa_cons pe_str pa_nil)))),.all fun us hl => by obtain ⟨_,rfl⟩ := len1 hl; rfl⟩,?_⟩
        intro H' v sp Q' s' hv hU k
        obtain ⟨x,y,rfl,_⟩ := mem_U.mp hU
        obtain ⟨p,rfl,hp⟩ := hv
        have cs : Paired (fun (p : Str × Addr) z => CellAt H' p.2 z) [("last",s.heap.objs.size + 2)] [.ref l] := .cons (c2.mono s') .nil
        have hC := cells_kn cs
        have CK : CodeK H' cc qF := by
          obtain ⟨o,vs,t,e,r⟩ := ck6
          exact ⟨o,vs,t,s' _ _ e,r⟩
        refine ⟨.ref p,[.ref l],rfl,s' _ _ ea,CK,cs,?_⟩
        exact ⟨_,rfl,_,rfl,p,l,x,y,m,n,rfl,cut_keep hC hp (fun z q => by cases q),cut_keep hC (s' _ _ l6) (fun z q => by cases q),fun hC1 => k _ (putc_same (Same.refl _))⟩
    have SP5 : SameP t_hops_fence H H5 := (S3.p.trans P4).trans P5
    have pb6 : Paired (fun s v => SpotAt H6 v s) ((begL m n F).map fun p => ck p.1 p.2) bvs := Paired.mapP pb3 fun a b ⟨p,e1,e2⟩ => ⟨p,e1,kp e2 (fun ps q => by cases q)⟩
    refine ⟨bl,fa,fb,bvs,_,U m n,asS m n F,finF m,rfl,kp f3 (fun ps q => by cases q),pb6,beg_nodup,bU,U_small bm.1 bm.2,FN,?_,?_⟩
    · intro H7 s7 sh
      exact (fence_there nh sh).elim
    · intro r H7 lst s7 road fnd hlen ra H8 k1 k2
      have S8 : Same H5 H8 := fun x ob e => k2 x ob e (s7 _ _ (s6 _ _ e))
      have hU := U_small bm.1 bm.2
      obtain ⟨vs,hr8,pr8⟩ := road_kn k1 ra
      have vl := Paired.length pr8
      have inU := road_in road (U := U m n) bU as_shut
      refine ⟨_,rfl,r,rfl,⟨_,SqL.of hr8⟩,comp_R (K := K) (SqL.of hr8) (by omega) (fun i v H' => ∃ q e,lst[i]? = some e ∧ v = V.ref q.p ∧ PrAt H' q ∧ prC q (dec e.1)) (fun i v H H' st h => by obtain ⟨q,e,x1,x2,x3,x4⟩ := h; exact ⟨q,e,x1,x2,x3.t st,x4⟩) ?_ ?_⟩
      · intro i x H9 Kc hx s9 kc
        obtain ⟨e,he,t,sv,rfl,ht,c,rfl,hc⟩ := paired_get' pr8 i x hx
        obtain ⟨x,y,ex,g1,g2,g3,g4⟩ := mem_U.mp (inU i e he)
        rw [ex] at hc
        refine ⟨_,rfl,t,_,_,_,rfl,rfl,SqT.of (s9 _ _ ht),rfl,c,x,y,rfl,s9 _ _ hc,⟨g1,by omega⟩,⟨g3,by omega⟩,fun q H10 s10 pq cq => kc _ H10 s10 ⟨q,e,he,rfl,pq,?_⟩⟩
        rw [ex]
        exact cq
      · intro lr ys H9 nl s9 f9 hlen9 hr9
        obtain ⟨ps,rfl,hp⟩ := prL_of (l := lst) (ys := ys) (by omega) hr9
        exact q1 lr H9 ps (sameP_free (SP5.trans S8.p) (tb5.same S8) nl) ((SP5.trans S8.p).trans s9.p) (tb5.same (S8.trans s9)) (fence_of nh road fnd (by omega) hp) (hp.at f9)
theorem S_go_hops : FnScope ["one","other","square","last","far","walk"] ["one","other","square"] (defScope (top 29)) := ⟨rfl,rfl,rfl,by decide +kernel,rfl,by decide +kernel,by decide +kernel⟩
theorem fn_go_hops {C_NoSquare t_hops_walk t_hops_fence : Addr} (D_go_hops : Df K mg "go_hops" (top 29)) (F_look_at_square : Fx P w K mg base "look_at_square" ["square"] 3 [] (spLookS C_NoSquare)) (F_last_of : Fn P w K mg base "last_of" ["line"] 1 spLast) (F_far_corners : Fn P w K mg base "far_corners" ["one","other","square","room"] 3 spFar) (F_hops_walk : Fn P w K mg base "hops_walk" ["far","last"] 6 (spHw t_hops_walk)) (F_hops_fence : Fn P w K mg base "hops_fence" ["far","last"] 6 (spHf t_hops_fence)) : Fx P w K mg base "go_hops" ["one","other","square"] 7 [] (spGo C_NoSquare t_hops_walk t_hops_fence) := by
  refine D_go_hops.fx S_go_hops (fun _ _ _ _ _ _ us hl => by obtain ⟨_,_,_,rfl⟩ := len3 hl; rfl) (fun vs H Q E h => ?_) (fun f cdv A outer s H vs Q E hr h => ?_)
  · obtain ⟨l1,l2,qs1,qs2,x,rfl,_⟩ := h
    rfl
  · obtain ⟨l1,l2,qs1,qs2,x,rfl,L1,L2',b1,b2,th,q⟩ := h
    refine ⟨_,(pss_cons (ps_expr (pe_fx F_look_at_square (hr.mono (by decide)) (by rfl) (pa_cons (pv 2) pa_nil))) (pss_cons (ps_set (i := 3) S_go_hops.nd rfl (Or.inl rfl) (pe_tupA (pa_cons (pe_fn F_last_of (hr.mono (by decide)) (by rfl) (pa_cons (pv 0) pa_nil)) (pa_cons (pe_fn F_last_of (hr.mono (by decide)) (by rfl) (pa_cons (pv 1) pa_nil)) pa_nil)))) (pss_cons (ps_set (i := 4) S_go_hops.nd rfl (Or.inl rfl) (pe_fn F_far_corners (hr.mono (by decide)) (by rfl) (pa_cons (pv 0) (pa_cons (pv 1) (pa_cons (pv 2) (pa_cons pe_int pa_nil)))))) (pss_cons (ps_set (i := 5) S_go_hops.nd rfl (Or.inl rfl) (pe_fn F_hops_walk (hr.mono (by decide)) (by rfl) (pa_cons (pv 4) (pa_cons (pv 3) pa_nil)))) (pss_cons (ps_if (pt_cmpR op_notN (pv 5) pe_non (nomark _)) (pss_one (ps_ret (pe_tupA (pa_cons pe_str (pa_cons (pv 5) pa_nil))))) pss_nil) (pss_one (ps_ret (pe_tupA (pa_cons pe_str (pa_cons (pe_fn F_hops_fence (hr.mono (by decide)) (by rfl) (pa_cons (pv 4) (pa_cons (pv 3) pa_nil))) pa_nil)))))))))),?_⟩
    rcases q with ⟨sv,qe⟩ | ⟨sv,p,a,b,rfl,sq,tb,q⟩
    · exact ⟨_,rfl,x,rfl,th,fun _ => qe,fun z => by rw [sv] at z; cases z⟩
    refine ⟨_,rfl,.ref p,rfl,th,(fun z => by rw [sv] at z; cases z),fun _ => ?_⟩
    have hl1 : (qs1.map fun (q : Addr × Int × Int) => V.ref q.1).length = qs1.length := List.length_map _
    have hl2 : (qs2.map fun (q : Addr × Int × Int) => V.ref q.1).length = qs2.length := List.length_map _
    refine ⟨_,rfl,l1,_,rfl,L1.lst,_,rfl,l2,_,rfl,L2'.lst,sz (by simp),fun lt H1 s1 f1 n1 => ?_⟩
    have e1 : (((qs1.map fun (q : Addr × Int × Int) => V.ref q.1).length : Nat) : Int) - 1 = ((lastN qs1 : Nat) : Int) := by unfold lastN; rw [hl1]; omega
    have e2 : (((qs2.map fun (q : Addr × Int × Int) => V.ref q.1).length : Nat) : Int) - 1 = ((lastN qs2 : Nat) : Int) := by unfold lastN; rw [hl2]; omega
    rw [e1,e2] at f1
    have m20 : lastN qs1 ≤ 20 ∧ lastN qs2 ≤ 20 := by unfold lastN; omega
    refine ⟨_,rfl,_,rfl,_,rfl,l1,l2,p,qs1,qs2,a,b,0,rfl,L1.mono s1,L2'.mono s1,b1,b2,sq.mono s1,fun d H2 s2 fd => ?_⟩
    have S2 := s1.trans s2
    have tb2 := tb.same S2
    have l2' := s2 _ _ f1
    refine ⟨_,rfl,_,rfl,d,lt,lastN qs1,lastN qs2,farB qs1 qs2 a b 0,rfl,tb2.w,fd,l2',m20,fun H3 P3 tb3 nh => ?_,fun r H3 ps nr P3 tb3 hw pp => ?_⟩
    · have N3 := SameP.n P3 tb2.w
      have tf3 : Tab H3 t_hops_fence lsF := by
        obtain ⟨ps,ew,_⟩ := id tb2.w
        exact tb2.f.other ew (fun z => tb2.ne z.symm) P3
      have fd3 : FarD H3 d (lastN qs1) (lastN qs2) (farB qs1 qs2 a b 0) := by
        obtain ⟨o,e⟩ := fd
        exact ⟨o,N3 _ _ e fun ps q => by cases q⟩
      refine ⟨_,rfl,rfl,_,rfl,iteF ?_⟩
      refine ⟨_,rfl,_,rfl,d,lt,lastN qs1,lastN qs2,farB qs1 qs2 a b 0,rfl,tf3,fd3,N3.t l2',m20,nh,fun r H4 ps nr P4 tb4 hf pp => ⟨sz (by simp),fun t H5 s5 f5 n5 => ?_⟩⟩
      have tw4 : Tab H4 t_hops_walk lsW := by
        obtain ⟨ps,ew,_⟩ := id tf3
        exact tb3.other ew tb2.ne P4
      have N5 := ((SameN.of S2).trans N3).trans ((SameP.n P4 tf3).trans (SameN.of s5))
      have fr : ∀ {x : Addr},H3 x = none → H x = none := fun h => S2.free (sameP_free P3 tb3 h)
      exact q t r H5 ps (fr nr) (fr (sameP_free P4 tb4 n5)) (fun z => by rw [z,pp.lst] at n5; cases n5) N5 ⟨tw4.same s5,tb4.same s5,tb2.ne⟩ (pp.mono s5) (.inr ⟨f5,hf⟩)
    · refine ⟨_,rfl,rfl,_,rfl,iteT ?_⟩
      refine ⟨_,rfl,sz (by simp),fun t H4 s4 f4 n4 => ?_⟩
      have N4 := ((SameN.of S2).trans (SameP.n P3 tb2.w)).trans (SameN.of s4)
      have tf3 : Tab H3 t_hops_fence lsF := by
        obtain ⟨ps,ew,_⟩ := id tb2.w
        exact tb2.f.other ew (fun z => tb2.ne z.symm) P3
      exact q t r H4 ps (S2.free nr) (S2.free (sameP_free P3 tb3 n4)) (fun z => by rw [z,pp.lst] at n4; cases n4) N4 ⟨tb3.same s4,tf3.same s4,tb2.ne⟩ (pp.mono s4) (.inl ⟨f4,hw⟩)
theorem S_law_cell_at : FnScope ["script","k"] ["script","k"] (defScope (top 31)) := ⟨rfl,rfl,rfl,by decide +kernel,rfl,by decide +kernel,by decide +kernel⟩
theorem fn_law_cell_at (D_law_cell_at : Df K mg "_law_cell_at" (top 31)) (T : Txt mg) : Fn P w K mg base "_law_cell_at" ["script","k"] 1 (Dr.spCell K) := by
  refine D_law_cell_at.fn S_law_cell_at (fun _ _ _ _ _ _ us hl => by obtain ⟨_,_,rfl⟩ := len2 hl; rfl) (fun vs H Q E h => ?_) (fun f cdv A outer s H vs Q E hr h => ?_)
  · obtain ⟨sa,ss,k,rfl,_⟩ := h
    rfl
  · obtain ⟨sa,ss,k,rfl,hS,hk,q⟩ := h
    refine ⟨_,(pss_cons (ps_if (pt_cmpR op_lt (pv 1) (pe_callB call_len_seq (by rfl) T.z_len bt_len (pa_cons (pv 0) pa_nil)) (nomark _)) (pss_one (ps_ret (pe_ix ix_list (pv 0) (pv 1) (fun _ _ => rfl)))) pss_nil) (pss_one (ps_ret pe_int))),?_⟩
    refine ⟨_,rfl,_,rfl,sa,_,rfl,.inl hS,_,_,rfl,rfl,_,rfl,ite3 (fun h1 => ?_) (fun h1 => ?_)⟩
    · have h1 : k < (((ss.map V.int).length : Nat) : Int) := dec_t h1
      rw [List.length_map] at h1
      exact ⟨_,rfl,_,rfl,sa,_,_,_,rfl,rfl,hS,at_int k.toNat (by omega) (by omega),q _⟩
    · exact q _
theorem S_law_begun : FnScope ["cell","rest"] ["cell"] (defScope (top 33)) := ⟨rfl,rfl,rfl,by decide +kernel,rfl,by decide +kernel,by decide +kernel⟩
theorem fn_law_begun (D_law_begun : Df K mg "_law_begun" (top 33)) (T : Txt mg) : Fn P w K mg base "_law_begun" ["cell"] 1 Dr.spBegun := by
  refine D_law_begun.fn S_law_begun (fun _ _ _ _ _ _ us hl => by obtain ⟨_,rfl⟩ := len1 hl; rfl) (fun vs H Q E h => ?_) (fun f cdv A outer s H vs Q E hr h => ?_)
  · obtain ⟨c,rfl,_⟩ := h
    rfl
  · obtain ⟨c,rfl,q⟩ := h
    refine ⟨_,(pss_cons (ps_set (i := 1) S_law_begun.nd rfl (Or.inl rfl) pe_int) (pss_cons (ps_if (pt_cmpR op_ge (pe_callB call_abs (by rfl) T.z_abs bt_abs (pa_cons (pv 0) pa_nil)) (pe_op op_pow pe_int pe_int) (nomark _)) (pss_one (ps_set (i := 1) S_law_begun.nd rfl (Or.inl rfl) (pe_op op_add (pe_op op_sub (pe_callB call_abs (by rfl) T.z_abs bt_abs (pa_cons (pv 0) pa_nil)) (pe_op op_pow pe_int pe_int)) pe_int))) pss_nil) (pss_one (ps_ret (pe_lstA (pa_cons (pv 1) (pa_cons pe_int (pa_cons (pe_op op_mod (pv 0) pe_int) pa_nil)))))))),?_⟩
    refine ⟨_,rfl,_,rfl,_,_,rfl,rfl,⟨by decide,by decide,by decide⟩,_,_,rfl,rfl,_,rfl,ite3 (fun h1 => ?_) (fun h1 => ?_)⟩
    · refine ⟨_,rfl,_,rfl,_,_,rfl,rfl,⟨by decide,by decide,by decide⟩,_,_,rfl,rfl,_,_,rfl,rfl,?_⟩
      refine ⟨_,rfl,_,rfl,_,_,rfl,rfl,(by show (0 : Int) < 2147483647; decide),sz (by simp),fun p H2 s2 f2 n2 => ?_⟩
      exact q p H2 s2 n2 ⟨_,_,_,f2,Int.le_refl 0,Int.le_refl 0,Int.emod_nonneg _ (by decide),Int.emod_lt_of_pos _ (by decide)⟩
    · refine ⟨_,rfl,_,rfl,_,_,rfl,rfl,(by show (0 : Int) < 2147483647; decide),sz (by simp),fun p H2 s2 f2 n2 => ?_⟩
      exact q p H2 s2 n2 ⟨_,_,_,f2,Int.le_refl 0,Int.le_refl 0,Int.emod_nonneg _ (by decide),Int.emod_lt_of_pos _ (by decide)⟩
theorem S_law_take : FnScope ["pot","size","digit","mixed"] ["pot","size"] (defScope (top 34)) := ⟨rfl,rfl,rfl,by decide +kernel,rfl,by decide +kernel,by decide +kernel⟩
theorem fn_law_take (D_law_take : Df K mg "_law_take" (top 34)) : Fn P w K mg base "_law_take" ["pot","size"] 1 Dr.spTk := by
  refine D_law_take.fn S_law_take (fun _ _ _ _ _ _ us hl => by obtain ⟨_,_,rfl⟩ := len2 hl; rfl) (fun vs H Q E h => ?_) (fun f cdv A outer s H vs Q E hr h => ?_)
  · obtain ⟨p,m,k,rfl,_⟩ := h
    rfl
  · obtain ⟨p,m,k,rfl,⟨a,b,c,e,hb0,hb1,hc0,hc1⟩,hk,⟨hm,bm⟩,q⟩ := h
    refine ⟨_,(pss_cons (ps_if (pt_cmpR op_gt (pe_ix ix_list (pv 0) pe_int (fun _ _ => rfl)) pe_int (nomark _)) (pss_cons (ps_set (i := 2) S_law_take.nd rfl (Or.inl rfl) (pe_op op_mod (pe_ix ix_list (pv 0) pe_int (fun _ _ => rfl)) (pv 1))) (pss_cons (ps_asg (pe_op op_fdivP (pe_ix ix_list (pv 0) pe_int (fun _ _ => rfl)) (pv 1)) (pg_sub (pv 0) pe_int set_listA)) (pss_one (ps_ret (pv 2))))) pss_nil) (pss_cons (ps_asg (pe_op op_add (pe_ix ix_list (pv 0) pe_int (fun _ _ => rfl)) pe_int) (pg_sub (pv 0) pe_int set_listA)) (pss_cons (ps_set (i := 3) S_law_take.nd rfl (Or.inl rfl) (pe_op op_mod (pe_op op_add (pe_op op_add (pe_op op_add (pe_ix ix_list (pv 0) pe_int (fun _ _ => rfl)) (pe_op op_mulX (pe_op op_mulX pe_int (pe_ix ix_list (pv 0) pe_int (fun _ _ => rfl))) (pe_ix ix_list (pv 0) pe_int (fun _ _ => rfl)))) (pe_op op_mulX pe_int (pe_ix ix_list (pv 0) pe_int (fun _ _ => rfl)))) pe_int) pe_int)) (pss_cons (ps_set (i := 3) S_law_take.nd rfl (Or.inl rfl) (pe_op op_mod (pe_op op_mulX (pe_op op_mod (pe_op op_mulX (pv 3) (pv 3)) pe_int) pe_int) pe_int)) (pss_one (ps_ret (pe_op op_mod (pe_op op_fdivP (pv 3) pe_int) (pv 1)))))))),?_⟩
    refine ⟨_,rfl,p,_,_,_,rfl,rfl,SqL.of e,rfl,_,_,rfl,rfl,_,rfl,ite3 (fun h1 => ?_) (fun h1 => ?_)⟩
    · refine ⟨_,rfl,p,_,_,_,rfl,rfl,SqL.of e,rfl,_,rfl,_,_,rfl,rfl,hm,?_⟩
      refine ⟨_,rfl,p,_,_,_,rfl,rfl,SqL.of e,rfl,_,rfl,_,_,rfl,rfl,⟨hm,bm⟩,_,rfl,p,_,_,0,rfl,rfl,e,rfl,fun H2 u => ?_⟩
      exact ⟨_,rfl,q _ _ (Int.emod_nonneg _ (by omega)) (Int.emod_lt_of_pos _ hm) (fun b o nb e => u.at nb e) ⟨_,_,_,u.now,hb0,by omega,hc0,hc1⟩⟩
    · have e64 : (2 : Int) ^ 64 = 18446744073709551616 := by decide
      refine ⟨_,rfl,p,_,_,_,rfl,rfl,SqL.of e,rfl,_,_,rfl,rfl,_,rfl,p,_,_,1,rfl,rfl,e,rfl,fun H2 u => ?_⟩
      have e2 : H2 p = some (.lst [.int a,.int (b + 1),.int c]) := u.now
      refine ⟨_,rfl,p,_,_,_,rfl,rfl,SqL.of e2,rfl,_,rfl,p,_,_,_,rfl,rfl,SqL.of e2,rfl,_,_,rfl,rfl,CM.l ⟨by decide,by decide⟩,_,rfl,p,_,_,_,rfl,rfl,SqL.of e2,rfl,_,_,rfl,rfl,CM.l (by rw [e64]; omega),_,_,rfl,rfl,_,rfl,p,_,_,_,rfl,rfl,SqL.of e2,rfl,_,_,rfl,rfl,CM.l ⟨by decide,by decide⟩,_,_,rfl,rfl,_,_,rfl,rfl,_,_,rfl,rfl,(by show (0 : Int) < 2147483647; decide),?_⟩
      have r0 := Int.emod_nonneg (c + 977 * (b + 1) * (b + 1) + 40693 * (b + 1) + 1) (show (2147483647 : Int) ≠ 0 by decide)
      have r1 := Int.emod_lt_of_pos (c + 977 * (b + 1) * (b + 1) + 40693 * (b + 1) + 1) (show (0 : Int) < 2147483647 by decide)
      refine ⟨_,rfl,_,rfl,_,_,rfl,rfl,CM.l (by rw [e64]; omega),_,_,rfl,rfl,(by show (0 : Int) < 1000000007; decide),_,_,rfl,rfl,CM.r ⟨by decide,by decide⟩,_,_,rfl,rfl,(by show (0 : Int) < 998244353; decide),?_⟩
      refine ⟨_,rfl,_,_,rfl,rfl,⟨by decide,by decide⟩,_,rfl,_,_,rfl,rfl,hm,?_⟩
      exact q _ _ (Int.emod_nonneg _ (by omega)) (Int.emod_lt_of_pos _ hm) (fun b o nb e => u.at nb e) ⟨_,_,_,u.now,by omega,by omega,hc0,hc1⟩
theorem S_law_wide : FnScope ["pot","size","number","turn"] ["pot","size"] (defScope (top 35)) := ⟨rfl,rfl,rfl,by decide +kernel,rfl,by decide +kernel,by decide +kernel⟩
theorem fn_law_wide (D_law_wide : Df K mg "_law_wide" (top 35)) (F_law_take : Fn P w K mg base "_law_take" ["pot","size"] 1 Dr.spTk) (T : Txt mg) : Fn P w K mg base "_law_wide" ["pot","size"] 2 Dr.spWd := by
  refine D_law_wide.fn S_law_wide (fun _ _ _ _ _ _ us hl => by obtain ⟨_,_,rfl⟩ := len2 hl; rfl) (fun vs H Q E h => ?_) (fun f cdv A outer s H vs Q E hr h => ?_)
  · obtain ⟨p,m,k,rfl,_⟩ := h
    rfl
  · obtain ⟨p,m,k,rfl,pt,hk,⟨hm,bm⟩,q⟩ := h
    refine ⟨_,(pss_cons (ps_if (pw_or (pt_cmpR op_gt (pe_ix ix_list (pv 0) pe_int (fun _ _ => rfl)) pe_int (nomark _)) (pw_or1 (pt_cmpR op_lt (pv 1) (pe_op op_pow pe_int pe_int) (nomark _)))).pt (pss_one (ps_ret (pe_fn F_law_take (hr.mono (by decide)) (by rfl) (pa_cons (pv 0) (pa_cons (pv 1) pa_nil))))) pss_nil) (pss_cons (ps_set (i := 2) S_law_wide.nd rfl (Or.inl rfl) pe_int) (pss_cons (ps_for PassesOwn.never rfl (pi_range1 rfl T.z_range (pa_cons pe_int pa_nil)) (pg_name (i := 3) S_law_wide.nd rfl (Or.inl rfl)) (pss_one (ps_set (i := 2) S_law_wide.nd rfl (Or.inl rfl) (pe_op op_add (pe_op op_mulX (pv 2) pe_int) (pe_fn F_law_take (hr.mono (by decide)) (by rfl) (pa_cons (pv 0) (pa_cons pe_int pa_nil))))))) (pss_one (ps_ret (pe_op op_mod (pv 2) (pv 1))))))),?_⟩
    obtain ⟨a,b,c,e,rest⟩ := id pt
    have tk : ∀ H1,H1 = H → spTk [.ref p,.int m] H1 Q E0 := fun H1 e1 => by
      subst e1
      exact ⟨p,m,k,rfl,pt,by omega,⟨hm,bm⟩,fun r H2 h0 h1 b2 p2 => q r H2 h0 h1 b2 (p2.mono (by omega))⟩
    refine ⟨_,rfl,p,_,_,_,rfl,rfl,SqL.of e,rfl,_,_,rfl,rfl,_,rfl,ite3 (fun h1 => ?_) (fun h1 => ?_)⟩
    · exact ⟨_,rfl,_,rfl,tk _ rfl⟩
    refine ⟨_,rfl,_,_,rfl,rfl,⟨by decide,by decide,by decide⟩,_,_,rfl,rfl,_,rfl,ite3 (fun h2 => ?_) (fun h2 => ?_)⟩
    · exact ⟨_,rfl,_,rfl,tk _ rfl⟩
    refine ⟨4,rfl,by decide,by decide,for_range (n := 4) (lo := 0) (fun i σ H2 => ∃ (n : Int) (z : Option V),σ = [some (.ref p),some (.int m),some (.int n),z] ∧ But p H H2 ∧ Pot H2 p (k + (i : Int))) ⟨_,_,rfl,But.refl,by simpa using pt⟩ ?_ ?_⟩
    · rintro i σ H2 hi ⟨n,z,rfl,b2,p2⟩
      refine ⟨_,rfl,_,_,rfl,rfl,CM.r ⟨by decide,by decide⟩,_,rfl,p,_,_,rfl,p2,by omega,⟨by decide,by decide⟩,fun r H3 h0 h1 b3 p3 => ⟨_,_,rfl,rfl,_,_,rfl,b2.trans b3,p3.mono (by omega)⟩⟩
    · rintro σ H2 ⟨n,z,rfl,b2,p2⟩
      exact ⟨_,rfl,_,rfl,_,_,rfl,rfl,hm,q _ _ (Int.emod_nonneg _ (by omega)) (Int.emod_lt_of_pos _ hm) b2 p2⟩
theorem S_law_drawn_line : FnScope ["pot","many","span","half","line","k","at"] ["pot"] (defScope (top 36)) := ⟨rfl,rfl,rfl,by decide +kernel,rfl,by decide +kernel,by decide +kernel⟩
theorem fn_law_drawn_line (D_law_drawn_line : Df K mg "_law_drawn_line" (top 36)) (F_law_take : Fn P w K mg base "_law_take" ["pot","size"] 1 Dr.spTk) (F_law_wide : Fn P w K mg base "_law_wide" ["pot","size"] 2 Dr.spWd) (T : Txt mg) : Fn P w K mg base "_law_drawn_line" ["pot"] 3 Dr.spDLine := by
  refine D_law_drawn_line.fn S_law_drawn_line (fun _ _ _ _ _ _ us hl => by obtain ⟨_,rfl⟩ := len1 hl; rfl) (fun vs H Q E h => ?_) (fun f cdv A outer s H vs Q E hr h => ?_)
  · obtain ⟨p,k,rfl,_⟩ := h
    rfl
  · obtain ⟨p,k,rfl,pt,hk,q⟩ := h
    have CN : CompN (cxOf CX0 P w K mg base ["pot","many","span","half","line","k","at"] "_law_drawn_line" (defScope (top 36)) f cdv A outer s H E).nox (setScope (ifBody ((defBody (top 36)).getD 5 (.Pass ⟨0,0,0,0⟩)))) [] "corner" [] :=
      ⟨by rfl,rfl,by decide +kernel,by decide +kernel,rfl,(fun p hp => nomatch hp),by rfl,by decide +kernel,(fun p hp => nomatch hp),⟨rfl,rfl⟩,rfl⟩
    have R : ∃ u,PSs (cxOf CX0 P w K mg base ["pot","many","span","half","line","k","at"] "_law_drawn_line" (defScope (top 36)) f cdv A outer s H E).nox ((defBody (top 36)).drop 6) u ∧ ∀ (l : Addr) (qs : Crn) (H1 : Hp) (S F : Int) (z5 z6 : Option V),LineM H1 l qs → 1 ≤ qs.length → qs.length ≤ 10 → H l = none → l ≠ p → But p H H1 → Pot H1 p (k + 90) →
        u { nx := fun _ H' => Q .non H',rt := Q } [some (.ref p),some (.int (qs.length : Int)),some (.int S),some (.int F),some (.ref l),z5,z6] H1 := by
      refine ⟨_,(pss_cons (ps_if (pw_and (pt_cmpR op_gt (pv 1) pe_int (nomark _)) (pw_and1 (pt_cmpR op_eq (pe_fn F_law_take (hr.mono (by decide)) (by rfl) (pa_cons (pv 0) (pa_cons pe_int pa_nil))) pe_int (nomark _)))).pt (pss_cons (ps_set (i := 6) S_law_drawn_line.nd rfl (Or.inl rfl) (pe_op op_add pe_int (pe_fn F_law_take (hr.mono (by decide)) (by rfl) (pa_cons (pv 0) (pa_cons (pe_op op_sub (pv 1) pe_int) pa_nil))))) (pss_one (ps_asg (pe_ix ix_list (pv 4) (pe_op op_sub (pv 6) pe_int) (fun _ _ => rfl)) (pg_sub (pv 4) (pv 6) set_listA)))) pss_nil) (pss_one (ps_ret (pv 4)))),fun l qs H1 S F z5 z6 L1 h1 h10 nl np b1 p1 => ?_⟩
      have hll : (qs.map fun (q : Addr × Int × Int) => V.ref q.1).length = qs.length := List.length_map _
      have fin : ∀ {z5 z6 : Option V} {H2 : Hp},LineM H2 l qs → But p H H2 → Pot H2 p (k + 95) → (tRet (tVar 4)) { nx := fun _ H' => Q .non H',rt := Q } [some (.ref p),some (.int (qs.length : Int)),some (.int S),some (.int F),some (.ref l),z5,z6] H2 := fun L2 b2 p2 => ⟨_,rfl,q l qs _ L2 h1 h10 nl b2 (p2.mono (by omega))⟩
      refine ⟨_,rfl,_,_,rfl,rfl,_,rfl,ite3 (fun g1 => ?_) (fun g1 => ?_)⟩
      · have g1 : 1 < (qs.length : Int) := dec_t g1
        refine ⟨_,rfl,p,_,_,rfl,p1,by omega,⟨by decide,by decide⟩,fun r2 H2 _ _ b2 p2 => ?_⟩
        have L2' := L1.but b2 p1 np
        refine ⟨rfl,_,rfl,ite3 (fun g2 => ?_) (fun g2 => ?_)⟩
        · refine ⟨_,rfl,_,rfl,_,_,rfl,rfl,p,_,_,rfl,p2,by omega,⟨by omega,bits_le (bits_small (by omega) (by omega)) (by decide)⟩,fun r3 H3 a3 b3' b3 p3 => ⟨_,_,rfl,rfl,?_⟩⟩
          have L3 := L2'.but b3 p2 np
          obtain ⟨qa,hqa,eqa⟩ := at_crn (qs := qs) (k := 1 + r3 - 1) (by omega) (by omega)
          refine ⟨_,rfl,_,rfl,_,_,rfl,rfl,l,_,_,_,rfl,rfl,SqL.of L3.lst,eqa,_,rfl,_,rfl,l,_,_,_,rfl,rfl,L3.lst,ixN_of (by omega) (by rw [hll]; omega),fun H4 u => ?_⟩
          have e4 : (qs.map fun (q : Addr × Int × Int) => V.ref q.1).set (1 + r3).toNat (.ref qa.1) = (qs.set (1 + r3).toNat qa).map fun (q : Addr × Int × Int) => V.ref q.1 := by rw [List.map_set]
          have L4 : LineM H4 l (qs.set (1 + r3).toNat qa) := by
            refine ⟨by rw [← e4]; exact u.now,fun q hq => ?_⟩
            rcases List.mem_or_eq_of_mem_set hq with hq | rfl
            · exact ⟨u.t _ _ (L3.crn q hq).1,(L3.crn q hq).2⟩
            · have m := List.mem_of_getElem? hqa
              exact ⟨u.t _ _ (L3.crn _ m).1,(L3.crn _ m).2⟩
          have b4 : But p H H4 := fun b o nb e => u.at (fun z => by subst z; rw [nl] at e; cases e) (b3 b o nb (b2 b o nb (b1 b o nb e)))
          obtain ⟨x,y,z,ep,rest⟩ := p3
          have p4 : Pot H4 p (k + 90 + 1 + 1) := ⟨x,y,z,u.at (Ne.symm np) ep,rest⟩
          exact ⟨_,rfl,q l _ _ L4 (by rw [List.length_set]; exact h1) (by rw [List.length_set]; exact h10) nl b4 (p4.mono (by omega))⟩
        · exact fin L2' (b1.trans b2) (p2.mono (by omega))
      · exact fin L1 b1 (p1.mono (by omega))
    obtain ⟨u,hu,ru⟩ := R
    refine ⟨_,(pss_cons (ps_set (i := 1) S_law_drawn_line.nd rfl (Or.inl rfl) (pe_op op_add pe_int (pe_fn F_law_take (hr.mono (by decide)) (by rfl) (pa_cons (pv 0) (pa_cons (pe_ix ix_list (@pe_lstA _ _ _ _ (@pa_cons _ _ _ _ _ pe_int (@pa_cons _ _ _ _ _ pe_int (@pa_cons _ _ _ _ _ pe_int (@pa_cons _ _ _ _ _ pe_int (@pa_cons _ _ _ _ _ pe_int (@pa_cons _ _ _ _ _ pe_int (@pa_cons _ _ _ _ _ pe_int (@pa_cons _ _ _ _ _ pe_int pa_nil (by rfl)) (by rfl)) (by rfl)) (by rfl)) (by rfl)) (by rfl)) (by rfl)) (by rfl))) (pe_fn F_law_take (hr.mono (by decide)) (by rfl) (pa_cons (pv 0) (pa_cons pe_int pa_nil))) (fun _ _ => rfl)) pa_nil))))) (pss_cons (ps_set (i := 2) S_law_drawn_line.nd rfl (Or.inl rfl) (pe_ix ix_list (pe_lstA (pa_cons pe_int (pa_cons pe_int (pa_cons pe_int (pa_cons (pe_op op_sub (pe_op op_mulX pe_int (pe_op op_pow pe_int pe_int)) pe_int) pa_nil))))) (pe_fn F_law_take (hr.mono (by decide)) (by rfl) (pa_cons (pv 0) (pa_cons pe_int pa_nil))) (fun _ _ => rfl))) (pss_cons (ps_set (i := 3) S_law_drawn_line.nd rfl (Or.inl rfl) (pe_op op_fdivP (pv 2) pe_int)) (pss_cons (ps_set (i := 4) S_law_drawn_line.nd rfl (Or.inl rfl) (pe_lstA pa_nil)) (pss_cons (ps_for PassesOwn.never rfl (pi_range1 rfl T.z_range (pa_cons (pv 1) pa_nil)) (pg_name (i := 5) S_law_drawn_line.nd rfl (Or.inl rfl)) (pss_one (ps_expr (pe_bm PySem.F.plainAttrs_list PySem.F.slot_list_append PySem.F.type_list_append mt_appendA (pv 4) (pa_cons (pe_tupA (pa_cons (pe_op op_sub (pe_fn F_law_wide (hr.mono (by decide)) (by rfl) (pa_cons (pv 0) (pa_cons (pv 2) pa_nil))) (pv 3)) (pa_cons (pe_op op_sub (pe_fn F_law_wide (hr.mono (by decide)) (by rfl) (pa_cons (pv 0) (pa_cons (pv 2) pa_nil))) (pv 3)) pa_nil))) pa_nil))))) (pss_cons (ps_if (pt_cmpR op_eq (pe_fn F_law_take (hr.mono (by decide)) (by rfl) (pa_cons (pv 0) (pa_cons pe_int pa_nil))) pe_int (nomark _)) (pss_one (ps_setCompA (j := 4) rfl CN S_law_drawn_line.nd rfl rfl (pi_list (pv 4)) (fun fp s₀ H₀ => (pe_tupA (pa_cons (pe_ix (ix_tupK (K := K) rfl) (pv 0) pe_int (fun _ _ => rfl)) (pa_cons pe_int pa_nil)))))) pss_nil) hu)))))),?_⟩
    refine ⟨_,rfl,sz (by simp),fun pl H1 s1 f1 n1 => ?_⟩
    have np1 := Pot.ne pt n1
    have p1 := pt.same s1
    refine ⟨_,rfl,p,_,_,rfl,p1,by omega,⟨by decide,by decide⟩,fun r2 H2 a2 b2' b2 p2 => ?_⟩
    refine menuI (fun m => 2 ≤ m ∧ m ≤ 10) (b2 _ _ np1 f1) a2 (by simpa using b2') (fun v hv => ?_) fun m hm => ?_
    · simp only [List.mem_cons,List.not_mem_nil,or_false] at hv
      rcases hv with rfl | rfl | rfl | rfl | rfl | rfl | rfl | rfl <;> exact ⟨_,rfl,by decide,by decide⟩
    refine ⟨p,_,_,rfl,p2,by omega,⟨by omega,bits_le (bits_small (by omega) (by omega)) (by decide)⟩,fun r3 H3 a3 b3' b3 p3 => ⟨_,_,rfl,rfl,?_⟩⟩
    have B3 : But p H H3 := (But.of s1).trans (b2.trans b3)
    refine ⟨_,_,rfl,rfl,⟨by decide,by decide,by decide⟩,_,_,rfl,rfl,CM.l ⟨by decide,by decide⟩,_,_,rfl,rfl,sz (by simp),fun ps H4 s4 f4 n4 => ?_⟩
    have np4 := Pot.ne p3 n4
    have p4 := p3.same s4
    have e12 : (2 * (10 : Int) ^ (12 : Int).toNat - 1) = 1999999999999 := by decide +kernel
    refine ⟨_,rfl,p,_,_,rfl,p4,by omega,⟨by decide,by decide⟩,fun r5 H5 a5 b5' b5 p5 => ?_⟩
    refine menuI (fun m => 3 ≤ m ∧ m ≤ 1999999999999) (b5 _ _ np4 f4) a5 (by simpa using b5') (fun v hv => ?_) fun S hS => ?_
    · simp only [List.mem_cons,List.not_mem_nil,or_false] at hv
      rcases hv with rfl | rfl | rfl | rfl
      · exact ⟨_,rfl,by decide,by decide⟩
      · exact ⟨_,rfl,by decide,by decide⟩
      · exact ⟨_,rfl,by decide,by decide⟩
      · exact ⟨_,rfl,by rw [e12]; decide,by rw [e12]; decide⟩
    have B5 : But p H H5 := (B3.trans (But.of s4)).trans b5
    have bS : bits S ≤ 8000 := bits_le (m := 50) (bits_of (by show _ < 1125899906842624; omega)) (by decide)
    refine ⟨_,rfl,_,_,rfl,rfl,⟨by decide,by decide⟩,?_⟩
    refine ⟨sz (by simp),fun l H6 s6 f6 n6 => ?_⟩
    have npl := Pot.ne p5 n6
    have nl : H l = none := B5.none npl n6
    have p6 := p5.same s6
    refine ⟨_,rfl,_,rfl,by omega,by omega,?_⟩
    refine for_range (n := (1 + r3).toNat) (lo := 0) (fun i σ H7 => ∃ (z5 z6 : Option V) (qs : Crn),σ = [some (.ref p),some (.int (1 + r3)),some (.int S),some (.int (S / 2)),some (.ref l),z5,z6] ∧ qs.length = i ∧ LineM H7 l qs ∧ But p H H7 ∧ Pot H7 p (k + 3 + 8 * (i : Int)))
      ⟨_,_,[],rfl,rfl,⟨f6,fun q h => nomatch h⟩,B5.trans (But.of s6),p6.mono (by omega)⟩ ?_ ?_
    · rintro i σ H7 hi ⟨z5,z6,qs,rfl,hl,L7,b7,p7⟩
      have hi10 : i < 10 := by omega
      refine ⟨_,rfl,.inl ⟨rfl,_,SqL.of L7.lst⟩,?_⟩
      refine ⟨_,rfl,_,rfl,p,_,_,rfl,p7,by omega,⟨by omega,bS⟩,fun r8 H8 a8 b8' b8 p8 => ⟨_,rfl,_,_,rfl,rfl,?_⟩⟩
      refine ⟨_,rfl,_,rfl,p,_,_,rfl,p8,by omega,⟨by omega,bS⟩,fun r9 H9 a9 b9' b9 p9 => ⟨_,rfl,_,_,rfl,rfl,sz (by simp),fun pp H10 s10 f10 n10 => ?_⟩⟩
      have L10 := ((L7.but b8 p7 npl).but b9 p8 npl).mono s10
      refine ⟨l,_,_,rfl,rfl,L10.lst,small1000 (by rw [List.length_map]; omega),fun H11 u => ⟨_,_,qs ++ [(pp,r8 - S / 2,r9 - S / 2)],rfl,by simp [hl],⟨by rw [u.now]; simp,fun q hq => ?_⟩,fun b o nb e => ?_,?_⟩⟩
      · rcases List.mem_append.mp hq with hq | hq
        · exact ⟨u.t _ _ (L10.crn q hq).1,(L10.crn q hq).2⟩
        · rw [List.mem_singleton.mp hq]
          refine ⟨u.t _ _ f10,?_,?_⟩ <;> (show -999999999999 ≤ _ ∧ _ ≤ 999999999999; dsimp only; omega)
      · exact u.at (fun z => by subst z; rw [nl] at e; cases e) (s10 _ _ (b9 b o nb (b8 b o nb (b7 b o nb e))))
      · obtain ⟨x,y,z,ep,rest⟩ := (p9.same s10).mono (k' := k + 3 + 8 * ((i + 1 : Nat) : Int)) (by omega)
        exact ⟨x,y,z,u.at (Ne.symm npl) ep,rest⟩
    · rintro σ H7 ⟨z5,z6,qs,rfl,hl,L7,b7,p7⟩
      have hmany : (qs.length : Int) = 1 + r3 := by omega
      refine ⟨_,rfl,p,_,_,rfl,p7,by omega,⟨by decide,by decide⟩,fun r8 H8 _ _ b8 p8 => ?_⟩
      have L8 := L7.but b8 p7 npl
      rw [← hmany]
      refine ⟨rfl,_,rfl,ite3 (fun g1 => ?_) (fun g1 => ?_)⟩
      · refine ⟨_,rfl,l,rfl,⟨_,SqL.of L8.lst⟩,comp_R (SqL.of L8.lst) (by rw [List.length_map]; omega) (fun _ v H => ∃ p x,v = .ref p ∧ H p = some (.tup [.int x,.int 0]) ∧ Sm x) (fun i v H H' st ⟨p,x,e,c,s⟩ => ⟨p,x,e,st _ _ c,s⟩) ?_ ?_⟩
        · intro i x H9 Kc hx s9 kk
          rw [List.getElem?_map] at hx
          obtain ⟨q,hq,rfl⟩ := Option.map_eq_some_iff.mp hx
          have c := s9 _ _ (L8.crn q (List.mem_of_getElem? hq)).1
          refine ⟨_,rfl,q.1,_,_,_,rfl,rfl,SqT.of c,rfl,sz (by simp),fun pp H10 s10 f10 n10 => kk _ _ s10 ⟨pp,_,rfl,f10,(L8.crn q (List.mem_of_getElem? hq)).2.1⟩⟩
        · intro l2 ys H9 nl2 s9 f9 hly hr
          rw [List.length_map] at hly
          have np2 := Pot.ne p8 nl2
          have ex : ∃ rs : Crn,rs.length = qs.length ∧ LineM H9 l2 rs := by
            have hch : ∀ ys : List V,(∀ y ∈ ys,∃ (p : Addr) (x : Int),y = .ref p ∧ H9 p = some (.tup [.int x,.int 0]) ∧ Sm x) → ∃ rs : Crn,ys = rs.map (fun q => V.ref q.1) ∧ ∀ q ∈ rs,H9 q.1 = some (.tup [.int q.2.1,.int q.2.2]) ∧ Sm q.2.1 ∧ Sm q.2.2 := by
              intro ys
              induction ys with
              | nil => exact fun _ => ⟨[],rfl,fun q h => nomatch h⟩
              | cons y ys ih =>
                intro h
                obtain ⟨rs,e,hrs⟩ := ih fun z hz => h z (List.mem_cons_of_mem _ hz)
                obtain ⟨pp,x,rfl,c,sx⟩ := h y List.mem_cons_self
                refine ⟨(pp,x,0) :: rs,by rw [e]; rfl,fun q hq => ?_⟩
                rcases List.mem_cons.mp hq with rfl | hq
                · exact ⟨c,sx,by show -999999999999 ≤ (0 : Int) ∧ (0 : Int) ≤ 999999999999; decide⟩
                · exact hrs q hq
            obtain ⟨rs,e,hrs⟩ := hch ys fun y hy => by
              obtain ⟨i,hi⟩ := List.getElem?_of_mem hy
              exact hr i y hi
            refine ⟨rs,?_,⟨by rw [f9,e],hrs⟩⟩
            rw [e,List.length_map] at hly
            exact hly
          obtain ⟨rs,hrl,L9⟩ := ex
          have := ru l2 rs H9 S (S / 2) z5 z6 L9 (by omega) (by omega) ((b7.trans b8).none np2 nl2) np2 ((b7.trans b8).trans (But.of s9)) ((p8.same s9).mono (by omega))
          rw [hrl] at this
          exact this
      · exact ru l qs H8 S (S / 2) z5 z6 L8 (by omega) (by omega) nl npl (b7.trans b8) (p8.mono (by omega))
theorem gcd_step' {a b : Int} (hb : 0 < b) : Int.gcd b (a % b) = Int.gcd a b := by
  have e : a = a % b + a / b * b := by
    have := Int.emod_add_mul_ediv a b
    rw [Int.mul_comm] at this
    omega
  have h := Int.gcd_add_mul_right_right b (a % b) (a / b)
  rw [← e] at h
  rw [Int.gcd_comm a b,h]
def spDiv : Sp := fun vs H Q _ => ∃ a b : Int,vs = [.int a,.int b] ∧ 0 ≤ b ∧ Q (.int (Int.gcd a b : Int)) H
def spLRat : Sp := fun vs H Q _ => ∃ a b : Int,vs = [.int a,.int b] ∧ (0 < b ∧ bits b ≤ 2000) ∧ ∀ (p : Addr) (t u : Int) (H' : Hp),Frac a b t u → t = a / (Int.gcd a b : Int) → u = b / (Int.gcd a b : Int) → Same H H' → H' p = some (.tup [.int t,.int u]) → H p = none → Q (.ref p) H'
theorem S_law_moved : FnScope ["pot","number"] ["pot","number"] (defScope (top 37)) := ⟨rfl,rfl,rfl,by decide +kernel,rfl,by decide +kernel,by decide +kernel⟩
theorem fn_law_moved (D_law_moved : Df K mg "_law_moved" (top 37)) (F_law_take : Fn P w K mg base "_law_take" ["pot","size"] 1 Dr.spTk) (T : Txt mg) : Fn P w K mg base "_law_moved" ["pot","number"] 2 spMoved := by
  refine D_law_moved.fn S_law_moved (fun _ _ _ _ _ _ us hl => by obtain ⟨_,_,rfl⟩ := len2 hl; rfl) (fun vs H Q E h => ?_) (fun f cdv A outer s H vs Q E hr h => ?_)
  · obtain ⟨p,n,k,rfl,_⟩ := h
    rfl
  · obtain ⟨p,n,k,rfl,pt,hk,q⟩ := h
    refine ⟨_,(pss_one (ps_ret (pe_callB (call_max2 rfl) (by rfl) T.z_max bt_max (pa_cons (pe_op op_sub pe_int (pe_op op_pow pe_int pe_int)) (pa_cons (pe_callB (call_min2 rfl) (by rfl) T.z_min bt_min (pa_cons (pe_op op_sub (pe_op op_pow pe_int pe_int) pe_int) (pa_cons (pe_op op_sub (pe_op op_add (pv 1) (pe_fn F_law_take (hr.mono (by decide)) (by rfl) (pa_cons (pv 0) (pa_cons pe_int pa_nil)))) pe_int) pa_nil))) pa_nil))))),?_⟩
    have e12 : (10 : Int) ^ (12 : Int).toNat = 1000000000000 := by decide +kernel
    refine ⟨_,_,rfl,rfl,⟨by decide,by decide,by decide⟩,_,_,rfl,rfl,_,_,rfl,rfl,⟨by decide,by decide,by decide⟩,_,_,rfl,rfl,_,rfl,_,rfl,p,_,_,rfl,pt,by omega,⟨by decide,by decide⟩,fun r H1 a1 b1 b2 p2 => ?_⟩
    refine ⟨_,_,rfl,rfl,_,_,rfl,rfl,_,_,rfl,_,_,rfl,q _ _ ?_ b2 p2⟩
    show -999999999999 ≤ _ ∧ _ ≤ 999999999999
    rw [e12]
    constructor <;> (split <;> split <;> omega)
theorem S_law_drawn_other : FnScope ["pot","line","way"] ["pot","line"] (defScope (top 38)) := ⟨rfl,rfl,rfl,by decide +kernel,rfl,by decide +kernel,by decide +kernel⟩
theorem fn_law_drawn_other (D_law_drawn_other : Df K mg "_law_drawn_other" (top 38)) (F_law_take : Fn P w K mg base "_law_take" ["pot","size"] 1 Dr.spTk) (F_law_moved : Fn P w K mg base "_law_moved" ["pot","number"] 2 spMoved) (F_law_drawn_line : Fn P w K mg base "_law_drawn_line" ["pot"] 3 Dr.spDLine) (T : Txt mg) : Fn P w K mg base "_law_drawn_other" ["pot","line"] 4 spOther := by
  refine D_law_drawn_other.fn S_law_drawn_other (fun _ _ _ _ _ _ us hl => by obtain ⟨_,_,rfl⟩ := len2 hl; rfl) (fun vs H Q E h => ?_) (fun f cdv A outer s H vs Q E hr h => ?_)
  · obtain ⟨p,l,qs,k,rfl,_⟩ := h
    rfl
  · obtain ⟨p,l,qs,k,rfl,pt,hk,L,⟨hq1,hq10⟩,q⟩ := h
    have CN : CompN (cxOf CX0 P w K mg base ["pot","line","way"] "_law_drawn_other" (defScope (top 38)) f cdv A outer s H E).nox (compScope (retExpr (ifBody ((defBody (top 38)).getD 1 (.Pass ⟨0,0,0,0⟩))))) [("pot",s.heap.objs.size + 1)] "corner" [("pot",0)] :=
      ⟨by rfl,rfl,by decide +kernel,by decide +kernel,rfl,(fun p hp => by rw [List.mem_singleton.mp hp]; rfl),by rfl,by decide +kernel,(fun p hp => by rw [List.mem_singleton.mp hp]; exact ⟨rfl,rfl,.inr (.inl rfl),rfl,rfl⟩),⟨rfl,rfl⟩,rfl⟩
    refine ⟨_,(pss_cons (ps_set (i := 2) S_law_drawn_other.nd rfl (Or.inl rfl) (pe_fn F_law_take (hr.mono (by decide)) (by rfl) (pa_cons (pv 0) (pa_cons pe_int pa_nil)))) (pss_cons (ps_if (pt_cmpR op_eq (pv 2) pe_int (nomark _)) (pss_one (ps_ret (pe_compA rfl CN (pi_list (pv 1)) (fun fp s₀ H₀ => (pe_tupA (pa_cons (pe_fn F_law_moved (hr.mono (by decide)) (by rfl) (pa_cons (pv 1) (pa_cons (pe_ix (ix_tupK (K := K) rfl) (pv 0) pe_int (fun _ _ => rfl)) pa_nil))) (pa_cons (pe_fn F_law_moved (hr.mono (by decide)) (by rfl) (pa_cons (pv 1) (pa_cons (pe_ix (ix_tupK (K := K) rfl) (pv 0) pe_int (fun _ _ => rfl)) pa_nil))) pa_nil))))))) pss_nil) (pss_cons (ps_if (pt_cmpR op_eq (pv 2) pe_int (nomark _)) (pss_one (ps_ret (pe_list_rev rfl rfl T.z_list rfl T.z_reversed (pv 1)))) pss_nil) (pss_one (ps_ret (pe_fn F_law_drawn_line (hr.mono (by decide)) (by rfl) (pa_cons (pv 0) pa_nil))))))),?_⟩
    have npl : l ≠ p := fun z => by
      obtain ⟨x,y,w,ep,_⟩ := pt
      subst z
      have e := L.lst
      rw [ep] at e
      cases qs with
      | nil => exact absurd hq1 (by simp)
      | cons c cs =>
        have e' := congrArg (fun o => match o with | some (HO.lst (V.ref _ :: _)) => true | _ => false) e
        exact absurd e' (by simp)
    have hll : (qs.map fun (q : Addr × Int × Int) => V.ref q.1).length = qs.length := List.length_map _
    refine ⟨_,rfl,p,_,_,rfl,pt,by omega,⟨by decide,by decide⟩,fun r1 H1 _ _ b1 p1 => ?_⟩
    have L1 := L.but b1 pt npl
    refine ⟨_,rfl,rfl,_,rfl,ite3 (fun h1 => ?_) (fun h1 => ?_)⟩
    · refine ⟨_,rfl,l,rfl,⟨_,SqL.of L1.lst⟩,fun r nr => ?_⟩
      have npr := Pot.ne p1 nr
      have nlr : l ≠ r := ne_of_none L1.lst nr
      refine comp_list (K := K) (a := l) (xs := qs.map fun (q : Addr × Int × Int) => V.ref q.1) (l := r) (fv := [("pot",0)]) (σ := [some (.ref p),some (.ref l),some (.int r1)]) (Qp := fun H2 => Q (.ref r) H2) (fun i acc H2 => ∃ rs : Crn,i ≤ qs.length ∧ acc = rs.map (fun z => V.ref z.1) ∧ rs.length = i ∧ (∀ z ∈ rs,H2 z.1 = some (.tup [.int z.2.1,.int z.2.2]) ∧ Sm z.2.1 ∧ Sm z.2.2) ∧ But p H1 H2 ∧ Pot H2 p (k + 1 + 2 * (i : Int)) ∧ H2 r = some (.lst acc))
        ⟨[],Nat.zero_le _,rfl,rfl,(fun z h => nomatch h),But.of (Same.new nr),by simpa using p1.same (Same.new nr),upd_same⟩ ?_ ?_ ?_
      · rintro i acc H2 hi ⟨rs,hi',rfl,hl,_,b2,_,e3⟩
        exact ⟨SqL.of (b2 _ _ npl L1.lst),e3,small1000 (by rw [List.length_map]; omega)⟩
      · rintro i y acc H2 Kc hy ⟨rs,hi,rfl,hl,hrs,b2,p2,e3⟩ kk
        rw [List.getElem?_map] at hy
        obtain ⟨qq,hqi,rfl⟩ := Option.map_eq_some_iff.mp hy
        have hlt : i < qs.length := (List.getElem?_eq_some_iff.mp hqi).1
        have c := b2.t p1 _ _ (L1.crn qq (List.mem_of_getElem? hqi)).1
        refine ⟨_,rfl,_,rfl,qq.1,_,_,_,rfl,rfl,SqT.of c,rfl,p,_,_,rfl,p2,by omega,fun x3 H3 sm3 b3 p3 => ?_⟩
        have c3 := b3.t p2 _ _ c
        refine ⟨_,rfl,_,rfl,qq.1,_,_,_,rfl,rfl,SqT.of c3,rfl,p,_,_,rfl,p3,by omega,fun x4 H4 sm4 b4 p4 => ?_⟩
        refine ⟨sz (by simp),fun pt' H5 s5 f5 n5 => ?_⟩
        have e5 := s5 _ _ (b4 _ _ npr (b3 _ _ npr e3))
        refine kk (.ref pt') H5 e5 ⟨rs ++ [(pt',x3,x4)],hlt,by rw [List.map_append]; rfl,by simp [hl],fun z hz => ?_,fun b o nb e => ?_,?_,upd_same⟩
        · have u := SameT.upd (ys := (rs.map fun z => V.ref z.1) ++ [V.ref pt']) e5
          rcases List.mem_append.mp hz with hz | hz
          · exact ⟨u _ _ (s5 _ _ (b4.t p3 _ _ (b3.t p2 _ _ (hrs z hz).1))),(hrs z hz).2⟩
          · rw [List.mem_singleton.mp hz]
            exact ⟨u _ _ f5,sm3,sm4⟩
        · by_cases hbr : b = r
          · subst hbr
            rw [nr] at e
            cases e
          · rw [upd_ne hbr]
            exact s5 _ _ (b4 b o nb (b3 b o nb (b2 b o nb e)))
        · obtain ⟨x,y,z,ep,rest⟩ := (p4.same s5).mono (k' := k + 1 + 2 * ((i + 1 : Nat) : Int)) (by omega)
          exact ⟨x,y,z,by rw [upd_ne (Ne.symm npr)]; exact ep,rest⟩
      · rintro acc H2 ⟨rs,_,rfl,hl,hrs,b2,p2,e3⟩
        rw [hll] at hl
        exact q r rs H2 ⟨e3,hrs⟩ (by omega) (by omega) (b1.none npr nr) (b1.trans b2)
    · refine ⟨_,rfl,rfl,_,rfl,ite3 (fun h2 => ?_) (fun h2 => ?_)⟩
      · refine ⟨_,rfl,l,_,rfl,SqL.of L1.lst,fun r H2 s2 f2 n2 => ?_⟩
        have npr := Pot.ne p1 n2
        have er : (qs.map fun (q : Addr × Int × Int) => V.ref q.1).reverse = qs.reverse.map fun (q : Addr × Int × Int) => V.ref q.1 := by rw [List.map_reverse]
        rw [er] at f2
        exact q r qs.reverse H2 ⟨f2,fun z hz => ⟨s2 _ _ (L1.crn z (List.mem_reverse.mp hz)).1,(L1.crn z (List.mem_reverse.mp hz)).2⟩⟩ (by rw [List.length_reverse]; exact hq1) (by rw [List.length_reverse]; exact hq10) (b1.none npr n2) (b1.trans (But.of s2))
      · refine ⟨_,rfl,p,_,rfl,p1,by omega,fun r rs H2 L2 h1' h2' n2 b2 p2 => ?_⟩
        have npr := Pot.ne p1 n2
        exact q r rs H2 L2 h1' h2' (b1.none npr n2) (b1.trans b2)
theorem S_law_lines : FnScope ["script","one"] ["script"] (defScope (top 39)) := ⟨rfl,rfl,rfl,by decide +kernel,rfl,by decide +kernel,by decide +kernel⟩
theorem fn_law_lines (D_law_lines : Df K mg "_law_lines" (top 39)) (F_law_cell_at : Fn P w K mg base "_law_cell_at" ["script","k"] 1 (Dr.spCell K)) (F_law_begun : Fn P w K mg base "_law_begun" ["cell"] 1 Dr.spBegun) (F_law_drawn_line : Fn P w K mg base "_law_drawn_line" ["pot"] 3 Dr.spDLine) (F_law_drawn_other : Fn P w K mg base "_law_drawn_other" ["pot","line"] 4 spOther) : Fn P w K mg base "_law_lines" ["script"] 5 (spLines K) := by
  refine D_law_lines.fn S_law_lines (fun _ _ _ _ _ _ us hl => by obtain ⟨_,rfl⟩ := len1 hl; rfl) (fun vs H Q E h => ?_) (fun f cdv A outer s H vs Q E hr h => ?_)
  · obtain ⟨sa,ss,rfl,_⟩ := h
    rfl
  · obtain ⟨sa,ss,rfl,hS,q⟩ := h
    refine ⟨_,(pss_cons (ps_set (i := 1) S_law_lines.nd rfl (Or.inl rfl) (pe_fn F_law_drawn_line (hr.mono (by decide)) (by rfl) (pa_cons (pe_fn F_law_begun (hr.mono (by decide)) (by rfl) (pa_cons (pe_fn F_law_cell_at (hr.mono (by decide)) (by rfl) (pa_cons (pv 0) (pa_cons pe_int pa_nil))) pa_nil)) pa_nil))) (pss_one (ps_ret (pe_tupA (pa_cons (pv 1) (pa_cons (pe_fn F_law_drawn_other (hr.mono (by decide)) (by rfl) (pa_cons (pe_fn F_law_begun (hr.mono (by decide)) (by rfl) (pa_cons (pe_fn F_law_cell_at (hr.mono (by decide)) (by rfl) (pa_cons (pv 0) (pa_cons pe_int pa_nil))) pa_nil)) (pa_cons (pv 1) pa_nil))) pa_nil)))))),?_⟩
    refine ⟨_,rfl,sa,ss,0,rfl,hS,by decide,fun c0 => ?_⟩
    refine ⟨c0,rfl,fun p0 H0 s0 n0 pt0 => ?_⟩
    refine ⟨p0,0,rfl,pt0,by decide,fun l qs H1 L1 h1 h10 nl b1 _ => ?_⟩
    have s1 : Same H H1 := b1.same s0 n0
    refine ⟨_,rfl,_,rfl,sa,ss,1,rfl,s1.seq hS,by decide,fun c1 => ?_⟩
    refine ⟨c1,rfl,fun p2 H2 s2 n2 pt2 => ⟨_,rfl,p2,l,qs,0,rfl,pt2,by decide,L1.mono s2,⟨h1,h10⟩,fun r rs H3 L3 h3 h30 nr b3 => ?_⟩⟩
    have nlp : l ≠ p2 := ne_of_none L1.lst n2
    have s3 : Same H1 H3 := b3.same s2 n2
    have L3' : LineM H3 l qs := L1.mono s3
    refine ⟨sz (by simp),fun t H4 s4 f4 n4 => ?_⟩
    exact q t l r qs rs H4 (s1.trans (s3.trans s4)) f4 (L3'.mono s4) ⟨h1,h10⟩ (L3.mono s4) ⟨h3,h30⟩ (s0.free nl) (s1.free (s2.free nr)) (ne_of_none (s2 _ _ L1.lst) nr)
theorem S_law_divisor : FnScope ["one","other"] ["one","other"] (defScope (top 40)) := ⟨rfl,rfl,rfl,by decide +kernel,rfl,by decide +kernel,by decide +kernel⟩
theorem fn_law_divisor (D_law_divisor : Df K mg "_law_divisor" (top 40)) (T : Txt mg) : Fn P w K mg base "_law_divisor" ["one","other"] 1 spDiv := by
  refine D_law_divisor.fn S_law_divisor (fun _ _ _ _ _ _ us hl => by obtain ⟨_,_,rfl⟩ := len2 hl; rfl) (fun vs H Q E h => ?_) (fun f cdv A outer s H vs Q E hr h => ?_)
  · obtain ⟨a,b,rfl,_⟩ := h
    rfl
  · obtain ⟨a,b,rfl,hb,q⟩ := h
    refine ⟨_,(pss_cons (ps_while PassesOwn.never (pt_cmpR op_ne (pv 1) pe_int (nomark _)) (pss_one (ps_par (i := 0) (j := 1) rfl S_law_divisor.nd rfl rfl (by decide) rfl rfl (pa_cons (pv 1) (pa_cons (pe_op op_mod (pv 0) (pv 1)) pa_nil)) (by rfl)))) (pss_one (ps_ret (pe_callB call_abs (by rfl) T.z_abs bt_abs (pa_cons (pv 0) pa_nil))))),?_⟩
    refine while_by (fun σ H' => ∃ x y : Int,σ = [some (.int x),some (.int y)] ∧ H' = H ∧ 0 ≤ y ∧ Int.gcd x y = Int.gcd a b)
      (fun σ _ => match σ with | [_,some (.int y)] => y.toNat | _ => 0) ⟨_,_,rfl,rfl,hb,rfl⟩ ?_ ?_
    · rintro σ H' ⟨x,y,rfl,rfl,hy,hg⟩
      refine ⟨_,rfl,rfl,_,rfl,?_⟩
      refine ite3 (fun hc => ?_) (fun hc => ?_)
      · have hy0 : ¬ y = 0 := by simpa using hc
        have hy1 : 0 < y := by omega
        refine ⟨_,rfl,_,rfl,_,rfl,x,y,rfl,rfl,hy1,_,_,rfl,⟨y,x % y,rfl,rfl,Int.emod_nonneg _ hy0,?_⟩,?_⟩
        · rw [gcd_step' hy1]
          exact hg
        · have h1 := Int.emod_lt_of_pos x hy1
          have h2 := Int.emod_nonneg x hy0
          show (x % y).toNat < y.toNat
          omega
      · have hy0 : y = 0 := by simpa using hc
        subst hy0
        refine ⟨_,rfl,x,rfl,?_⟩
        have e : (Int.gcd a b : Int) = (if x < 0 then -x else x) := by rw [← hg,Int.gcd_zero]; split <;> omega
        rw [e] at q
        exact q
    · rintro σ H' Q1 Q2 hq ⟨v,e,hs,k,ek,r⟩
      exact ⟨v,e,hs,k,ek,hq _ _ r⟩
theorem S_law_ratio : FnScope ["top","bottom","by"] ["top","bottom"] (defScope (top 41)) := ⟨rfl,rfl,rfl,by decide +kernel,rfl,by decide +kernel,by decide +kernel⟩
theorem fn_law_ratio (D_law_ratio : Df K mg "_law_ratio" (top 41)) (F_law_divisor : Fn P w K mg base "_law_divisor" ["one","other"] 1 spDiv) : Fn P w K mg base "_law_ratio" ["top","bottom"] 2 spLRat := by
  refine D_law_ratio.fn S_law_ratio (fun _ _ _ _ _ _ us hl => by obtain ⟨_,_,rfl⟩ := len2 hl; rfl) (fun vs H Q E h => ?_) (fun f cdv A outer s H vs Q E hr h => ?_)
  · obtain ⟨a,b,rfl,_⟩ := h
    rfl
  · obtain ⟨a,b,rfl,⟨hb,bb⟩,q⟩ := h
    refine ⟨_,(pss_cons (ps_set (i := 2) S_law_ratio.nd rfl (Or.inl rfl) (pe_fn F_law_divisor (hr.mono (by decide)) (by rfl) (pa_cons (pv 0) (pa_cons (pv 1) pa_nil)))) (pss_one (ps_ret (pe_tupA (pa_cons (pe_op op_fdivP (pv 0) (pv 2)) (pa_cons (pe_op op_fdivP (pv 1) (pv 2)) pa_nil)))))),?_⟩
    refine ⟨_,rfl,_,rfl,a,b,rfl,by omega,?_⟩
    have hg := gcd_pos (a := a) (b := b) (by omega)
    have bg : bits (Int.gcd a b : Int) ≤ 8000 := bits_le (gcd_bits2 (by omega) bb) (by decide)
    refine ⟨_,rfl,_,rfl,_,_,rfl,rfl,⟨hg,bg⟩,_,rfl,_,rfl,_,_,rfl,rfl,⟨hg,bg⟩,sz (by simp),fun p H1 s1 f1 n1 => ?_⟩
    exact q p _ _ H1 (frac_pos hb) rfl rfl s1 f1 n1
theorem S_law_below : FnScope ["one","other"] ["one","other"] (defScope (top 42)) := ⟨rfl,rfl,rfl,by decide +kernel,rfl,by decide +kernel,by decide +kernel⟩
theorem fn_law_below (D_law_below : Df K mg "_law_below" (top 42)) : Fn P w K mg base "_law_below" ["one","other"] 1 spLess := by
  refine D_law_below.fn S_law_below (fun _ _ _ _ _ _ us hl => by obtain ⟨_,_,rfl⟩ := len2 hl; rfl) (fun vs H Q E h => ?_) (fun f cdv A outer s H vs Q E hr h => ?_)
  · obtain ⟨p,q,a,b,c,d,rfl,_⟩ := h
    rfl
  · obtain ⟨p,q,a,b,c,d,rfl,hp,hq,⟨ba,bb,bc,bd⟩,k⟩ := h
    refine ⟨_,(pss_one (ps_ret (pe_cmpR op_lt (pe_op op_mulX (pe_ix ix_tup (pv 0) pe_int (fun _ _ => rfl)) (pe_ix ix_tup (pv 1) pe_int (fun _ _ => rfl))) (pe_op op_mulX (pe_ix ix_tup (pv 1) pe_int (fun _ _ => rfl)) (pe_ix ix_tup (pv 0) pe_int (fun _ _ => rfl))) (nomark _)))),?_⟩
    walk_at "rd"
    exact k
def sqC (u v : Addr × Int × Int) : Int := (u.2.1 - v.2.1) * (u.2.1 - v.2.1) + (u.2.2 - v.2.2) * (u.2.2 - v.2.2)
theorem p2 (x : Int) : x ^ (2 : Int).toNat = x * x := by
  rw [show ((2 : Int).toNat) = 2 from rfl,Int.pow_succ,Int.pow_succ,Int.pow_zero,Int.one_mul]
theorem sqC_nn (u v : Addr × Int × Int) : 0 ≤ sqC u v := by
  unfold sqC
  have h : ∀ x : Int,0 ≤ x * x := fun x => by
    rcases Int.le_total 0 x with h | h
    · exact Int.mul_nonneg h h
    · exact Int.mul_nonneg_of_nonpos_of_nonpos h h
  have h1 := h (u.2.1 - v.2.1)
  have h2 := h (u.2.2 - v.2.2)
  omega
theorem sqC_bits {u v : Addr × Int × Int} (h1 : Sm u.2.1) (h2 : Sm u.2.2) (h3 : Sm v.2.1) (h4 : Sm v.2.2) : bits (sqC u v) ≤ 103 := by
  unfold sqC
  have d1 : bits (u.2.1 - v.2.1) ≤ 51 := bits_sub (sm_bits h1) (sm_bits h3)
  have d2 : bits (u.2.2 - v.2.2) ≤ 51 := bits_sub (sm_bits h2) (sm_bits h4)
  exact bits_add (bits_mul d1 d1) (bits_mul d2 d2)
def spApart : Sp := fun vs H Q _ => ∃ (l1 l2 : Addr) (qs1 qs2 : Crn) (x y : Int),vs = [.ref l1,.int x,.ref l2,.int y] ∧ LineM H l1 qs1 ∧ LineM H l2 qs2 ∧ (0 ≤ x ∧ x < (qs1.length : Int)) ∧ (0 ≤ y ∧ y < (qs2.length : Int)) ∧ ∀ u v,qs1[x.toNat]? = some u → qs2[y.toNat]? = some v → Q (.int (sqC u v)) H
def spLeash : Sp := fun vs H Q _ => ∃ (p l1 l2 : Addr) (qs1 qs2 : Crn) (k : Int),vs = [.ref p,.ref l1,.ref l2] ∧ Pot H p k ∧ k ≤ 500000 ∧ LineM H l1 qs1 ∧ LineM H l2 qs2 ∧ (1 ≤ qs1.length ∧ qs1.length ≤ 10) ∧ (1 ≤ qs2.length ∧ qs2.length ≤ 10) ∧ (l1 ≠ p ∧ l2 ≠ p) ∧
  ∀ (z : Addr) (a b : Int) (H' : Hp),H z = none → z ≠ p → Sq H' z a b → Low a b → 0 ≤ a → But p H H' → Pot H' p (k + 20) → Q (.ref z) H'
theorem sqV_of {H : Hp} {z : Addr} {a b : Int} (s : Sq H z a b) (lw : Low a b) (ha : 0 ≤ a) : sqV H (.ref z) = true := by
  rw [sqV_two s.at_,low_B lw,Bool.true_and,Bool.not_eq_true',decide_eq_false_iff_not]
  omega
theorem th_sq {H : Hp} {z : Addr} {a b : Int} (s : Sq H z a b) : Thing H (.ref z) := by
  refine ⟨⟨_,.tup s.at_⟩,fun q xs e1 e2 y hy => ?_⟩
  cases e1
  rw [s.at_] at e2
  cases e2
  simp only [List.mem_cons,List.not_mem_nil,or_false] at hy
  rcases hy with rfl | rfl <;> exact ⟨_,.int _⟩
theorem S_law_apart : FnScope ["one","x","other","y"] ["one","x","other","y"] (defScope (top 55)) := ⟨rfl,rfl,rfl,by decide +kernel,rfl,by decide +kernel,by decide +kernel⟩
theorem fn_law_apart (D_law_apart : Df K mg "_law_apart" (top 55)) : Fn P w K mg base "_law_apart" ["one","x","other","y"] 1 spApart := by
  refine D_law_apart.fn S_law_apart (fun _ _ _ _ _ _ us hl => by obtain ⟨_,_,_,_,rfl⟩ := len4 hl; rfl) (fun vs H Q E h => ?_) (fun f cdv A outer s H vs Q E hr h => ?_)
  · obtain ⟨l1,l2,qs1,qs2,x,y,rfl,_⟩ := h
    rfl
  · obtain ⟨l1,l2,qs1,qs2,x,y,rfl,L1,L2',⟨hx0,hx1⟩,⟨hy0,hy1⟩,q⟩ := h
    refine ⟨_,(pss_one (ps_ret (pe_op op_add (pe_op op_powX (pe_op op_sub (pe_ix ix_tup (pe_ix ix_list (pv 0) (pv 1) (fun _ _ => rfl)) pe_int (fun _ _ => rfl)) (pe_ix ix_tup (pe_ix ix_list (pv 2) (pv 3) (fun _ _ => rfl)) pe_int (fun _ _ => rfl))) pe_int) (pe_op op_powX (pe_op op_sub (pe_ix ix_tup (pe_ix ix_list (pv 0) (pv 1) (fun _ _ => rfl)) pe_int (fun _ _ => rfl)) (pe_ix ix_tup (pe_ix ix_list (pv 2) (pv 3) (fun _ _ => rfl)) pe_int (fun _ _ => rfl))) pe_int)))),?_⟩
    obtain ⟨u,hu,eu⟩ := at_crn (qs := qs1) hx0 hx1
    obtain ⟨v,hv,ev⟩ := at_crn (qs := qs2) hy0 hy1
    have cu := L1.crn u (List.mem_of_getElem? hu)
    have cv := L2'.crn v (List.mem_of_getElem? hv)
    have d1 : bits (u.2.1 - v.2.1) ≤ 51 := bits_sub (sm_bits cu.2.1) (sm_bits cv.2.1)
    have d2 : bits (u.2.2 - v.2.2) ≤ 51 := bits_sub (sm_bits cu.2.2) (sm_bits cv.2.2)
    have q := q u v hu hv
    unfold sqC at q
    rw [← p2,← p2] at q
    refine ⟨_,rfl,_,rfl,l1,_,_,_,rfl,rfl,SqL.of L1.lst,eu,u.1,_,_,_,rfl,rfl,SqT.of cu.1,rfl,_,rfl,_,rfl,l2,_,_,_,rfl,rfl,SqL.of L2'.lst,ev,v.1,_,_,_,rfl,rfl,SqT.of cv.1,rfl,_,_,rfl,rfl,_,_,rfl,rfl,cpx2 d1 (by decide),?_⟩
    refine ⟨_,rfl,_,rfl,l1,_,_,_,rfl,rfl,SqL.of L1.lst,eu,u.1,_,_,_,rfl,rfl,SqT.of cu.1,rfl,_,rfl,_,rfl,l2,_,_,_,rfl,rfl,SqL.of L2'.lst,ev,v.1,_,_,_,rfl,rfl,SqT.of cv.1,rfl,_,_,rfl,rfl,_,_,rfl,rfl,cpx2 d2 (by decide),_,_,rfl,rfl,q⟩
theorem S_law_drawn_leash : FnScope ["pot","one","other","here","part","turn"] ["pot","one","other"] (defScope (top 56)) := ⟨rfl,rfl,rfl,by decide +kernel,rfl,by decide +kernel,by decide +kernel⟩
theorem fn_law_drawn_leash (D_law_drawn_leash : Df K mg "_law_drawn_leash" (top 56)) (F_law_apart : Fn P w K mg base "_law_apart" ["one","x","other","y"] 1 spApart) (F_law_take : Fn P w K mg base "_law_take" ["pot","size"] 1 Dr.spTk) (F_law_wide : Fn P w K mg base "_law_wide" ["pot","size"] 2 Dr.spWd) (F_law_ratio : Fn P w K mg base "_law_ratio" ["top","bottom"] 2 spLRat) (T : Txt mg) : Fn P w K mg base "_law_drawn_leash" ["pot","one","other"] 4 spLeash := by
  refine D_law_drawn_leash.fn S_law_drawn_leash (fun _ _ _ _ _ _ us hl => by obtain ⟨_,_,_,rfl⟩ := len3 hl; rfl) (fun vs H Q E h => ?_) (fun f cdv A outer s H vs Q E hr h => ?_)
  · obtain ⟨p,l1,l2,qs1,qs2,k,rfl,_⟩ := h
    rfl
  · obtain ⟨p,l1,l2,qs1,qs2,k,rfl,p0,hk,L1,L2',⟨g1,h1⟩,⟨g2,h2⟩,⟨np1,np2⟩,q⟩ := h
    refine ⟨_,(pss_cons (ps_set (i := 3) S_law_drawn_leash.nd rfl (Or.inl rfl) (pe_fn F_law_apart (hr.mono (by decide)) (by rfl) (pa_cons (pv 1) (pa_cons (pe_fn F_law_take (hr.mono (by decide)) (by rfl) (pa_cons (pv 0) (pa_cons (pe_callB call_len_seq (by rfl) T.z_len bt_len (pa_cons (pv 1) pa_nil)) pa_nil))) (pa_cons (pv 2) (pa_cons (pe_fn F_law_take (hr.mono (by decide)) (by rfl) (pa_cons (pv 0) (pa_cons (pe_callB call_len_seq (by rfl) T.z_len bt_len (pa_cons (pv 2) pa_nil)) pa_nil))) pa_nil)))))) (pss_cons (ps_set (i := 4) S_law_drawn_leash.nd rfl (Or.inl rfl) (pe_op op_add pe_int (pe_fn F_law_wide (hr.mono (by decide)) (by rfl) (pa_cons (pv 0) (pa_cons (pe_ix ix_list (pe_lstA (pa_cons pe_int (pa_cons pe_int (pa_cons (pe_op op_pow pe_int pe_int) pa_nil)))) (pe_fn F_law_take (hr.mono (by decide)) (by rfl) (pa_cons (pv 0) (pa_cons pe_int pa_nil))) (fun _ _ => rfl)) pa_nil))))) (pss_cons (ps_set (i := 5) S_law_drawn_leash.nd rfl (Or.inl rfl) (pe_fn F_law_take (hr.mono (by decide)) (by rfl) (pa_cons (pv 0) (pa_cons pe_int pa_nil)))) (pss_cons (ps_if (pt_cmpR op_lt (pv 5) pe_int (nomark _)) (pss_one (ps_ret (pe_tupA (pa_cons (pv 3) (pa_cons pe_int pa_nil))))) pss_nil) (pss_cons (ps_if (pt_cmpR op_eq (pv 5) pe_int (nomark _)) (pss_one (ps_ret (pe_fn F_law_ratio (hr.mono (by decide)) (by rfl) (pa_cons (pe_op op_add (pe_op op_mulX (pv 3) (pv 4)) pe_int) (pa_cons (pv 4) pa_nil))))) pss_nil) (pss_cons (ps_if (pt_cmpR op_eq (pv 5) pe_int (nomark _)) (pss_one (ps_ret (pe_fn F_law_ratio (hr.mono (by decide)) (by rfl) (pa_cons (pe_callB (call_max2 rfl) (by rfl) T.z_max bt_max (pa_cons pe_int (pa_cons (pe_op op_sub (pe_op op_mulX (pv 3) (pv 4)) pe_int) pa_nil))) (pa_cons (pv 4) pa_nil))))) pss_nil) (pss_cons (ps_if (pt_cmpR op_eq (pv 5) pe_int (nomark _)) (pss_one (ps_ret (pe_fn F_law_ratio (hr.mono (by decide)) (by rfl) (pa_cons (pe_fn F_law_take (hr.mono (by decide)) (by rfl) (pa_cons (pv 0) (pa_cons pe_int pa_nil))) (pa_cons (pe_op op_add pe_int (pe_fn F_law_take (hr.mono (by decide)) (by rfl) (pa_cons (pv 0) (pa_cons pe_int pa_nil)))) pa_nil))))) pss_nil) (pss_one (ps_ret (pe_tupA (pa_cons (pe_fn F_law_wide (hr.mono (by decide)) (by rfl) (pa_cons (pv 0) (pa_cons (pe_op op_pow pe_int pe_int) pa_nil))) (pa_cons pe_int pa_nil)))))))))))),?_⟩
    have hl1 : (qs1.map fun (q : Addr × Int × Int) => V.ref q.1).length = qs1.length := List.length_map _
    have hl2 : (qs2.map fun (q : Addr × Int × Int) => V.ref q.1).length = qs2.length := List.length_map _
    have e30 : (10 : Int) ^ (30 : Int).toNat = 1000000000000000000000000000000 := by decide +kernel
    have e25 : (10 : Int) ^ (25 : Int).toNat = 10000000000000000000000000 := by decide +kernel
    refine ⟨_,rfl,_,rfl,_,rfl,l1,_,rfl,.inl (SqL.of L1.lst),p,_,_,rfl,p0,by omega,⟨by rw [hl1]; omega,bits_le (bits_small (by omega) (by rw [hl1]; omega)) (by decide)⟩,fun x H1 x0 x1 b1 p1 => ?_⟩
    rw [hl1] at x1
    have M1 := L1.but b1 p0 np1
    have M2 := L2'.but b1 p0 np2
    refine ⟨_,rfl,_,rfl,_,rfl,l2,_,rfl,.inl (SqL.of M2.lst),p,_,_,rfl,p1,by omega,⟨by rw [hl2]; omega,bits_le (bits_small (by omega) (by rw [hl2]; omega)) (by decide)⟩,fun y H2 y0 y1 b2 p2' => ?_⟩
    rw [hl2] at y1
    have N1 := M1.but b2 p1 np1
    have N2 := M2.but b2 p1 np2
    refine ⟨l1,l2,qs1,qs2,x,y,rfl,N1,N2,⟨x0,x1⟩,⟨y0,y1⟩,fun u v hu hv => ?_⟩
    have cu := N1.crn u (List.mem_of_getElem? hu)
    have cv := N2.crn v (List.mem_of_getElem? hv)
    have hb := sqC_bits cu.2.1 cu.2.2 cv.2.1 cv.2.2
    have hn := sqC_nn u v
    generalize sqC u v = here at hb hn
    refine ⟨_,rfl,_,_,rfl,rfl,⟨by decide,by decide,by decide⟩,sz (by simp),fun pl H3 s3 f3 n3 => ?_⟩
    have p3 := p2'.same s3
    have npl := Pot.ne p2' n3
    refine ⟨_,rfl,p,_,_,rfl,p3,by omega,⟨by decide,by decide⟩,fun r4 H4 a4 b4' b4 p4 => ?_⟩
    refine menuI (fun m => 1 ≤ m ∧ m ≤ 1000000000000000000000000000000) (b4 _ _ npl f3) a4 (by simpa using b4') (fun v hv => ?_) fun m hm => ?_
    · simp only [List.mem_cons,List.not_mem_nil,or_false] at hv
      rcases hv with rfl | rfl | rfl
      · exact ⟨_,rfl,by decide,by decide⟩
      · exact ⟨_,rfl,by decide,by decide⟩
      · exact ⟨_,rfl,by rw [e30]; decide,by rw [e30]; decide⟩
    have bits101 : ∀ {z : Int},0 ≤ z → z ≤ 1000000000000000000000000000001 → bits z ≤ 101 := fun {z} h0 h1 => bits_of (n := 101) (by show _ < 2535301200456458802993406410752; omega)
    refine ⟨p,_,_,rfl,p4,by omega,⟨by omega,bits_le (bits101 (by omega) (by omega)) (by decide)⟩,fun r5 H5 a5 b5' b5 p5 => ⟨_,_,rfl,rfl,?_⟩⟩
    have bp : bits (1 + r5) ≤ 101 := bits101 (by omega) (by omega)
    refine ⟨_,rfl,p,_,_,rfl,p5,by omega,⟨by decide,by decide⟩,fun tn H6 a6 b6' b6 p6 => ?_⟩
    have B6 : But p H H6 := (b1.trans b2).trans ((But.of s3).trans (b4.trans (b5.trans b6)))
    have fr : ∀ {z : Addr},z ≠ p → H6 z = none → H z = none := fun nz h => B6.none nz h
    have w1 : ∀ {z : Addr} {a : Int} {H7 : Hp} {k' : Int},Same H6 H7 → H6 z = none → H7 z = some (.tup [.int a,.int 1]) → 0 ≤ a → bits a ≤ 230 → Q (.ref z) H7 := fun {z a H7 k'} s7 nz e7 h0 hb => q z a 1 H7 (fr (Pot.ne p6 nz) nz) (Pot.ne p6 nz) ⟨e7,hb,by decide⟩ ⟨by decide,Int.gcd_one⟩ h0 (B6.trans (But.of s7)) ((p6.same s7).mono (by omega))
    have fq : ∀ {H6' : Hp} {k' : Int} {T U : Int},But p H H6' → Pot H6' p k' → k' ≤ k + 19 → 0 ≤ T → 0 < U → bits T ≤ 230 → bits U ≤ 130 → spLRat [.int T,.int U] H6' Q E0 := fun {H6' k' T U} B P hk' h0 hU hbT hbU => by
      refine ⟨T,U,rfl,⟨hU,bits_le hbU (by decide)⟩,fun z t u H7 f et eu s7 e7 n7 => ?_⟩
      have hg := gcd_pos (a := T) (b := U) (by omega)
      refine q z t u H7 (B.none (Pot.ne P n7) n7) (Pot.ne P n7) ⟨e7,?_,?_⟩ f.low ?_ (B.trans (But.of s7)) ((P.same s7).mono (by omega))
      · rw [et]
        exact bits_ediv hg hbT
      · rw [eu]
        exact bits_ediv hg hbU
      · rw [et]
        exact Int.ediv_nonneg h0 (by omega)
    have bhp : bits (here * (1 + r5)) ≤ 204 := bits_mul hb bp
    have chp : CM here (1 + r5) := CM.of hb bp ⟨by decide,by decide⟩
    have hpn : 0 ≤ here * (1 + r5) := Int.mul_nonneg hn (by omega)
    have bone : bits (1 : Int) ≤ 204 := bits_le (bits_small (n := 1) (by decide) (by decide)) (by decide)
    refine ⟨_,rfl,_,_,rfl,rfl,_,rfl,ite3 (fun c1 => ?_) (fun c1 => ?_)⟩
    · exact ⟨_,rfl,sz (by simp),fun z H7 s7 f7 n7 => w1 (k' := 0) s7 n7 f7 hn (bits_le hb (by decide))⟩
    refine ⟨_,rfl,rfl,_,rfl,ite3 (fun c2 => ?_) (fun c2 => ?_)⟩
    · refine ⟨_,rfl,_,rfl,_,_,rfl,rfl,chp,_,_,rfl,rfl,_,rfl,fq B6 p6 (by omega) (by omega) (by omega) (bits_le (bits_add bhp bone) (by decide)) (bits_le bp (by decide))⟩
    refine ⟨_,rfl,rfl,_,rfl,ite3 (fun c3 => ?_) (fun c3 => ?_)⟩
    · refine ⟨_,rfl,_,rfl,_,_,rfl,rfl,chp,_,_,rfl,rfl,_,_,rfl,_,rfl,fq B6 p6 (by omega) ?_ (by omega) ?_ (bits_le bp (by decide))⟩
      · split <;> omega
      · split
        · exact bits_le (bits_sub bhp bone) (by decide)
        · decide
    refine ⟨_,rfl,rfl,_,rfl,ite3 (fun c4 => ?_) (fun c4 => ?_)⟩
    · refine ⟨_,rfl,p,_,_,rfl,p6,by omega,⟨by decide,by decide⟩,fun r7 H7 a7 b7' b7 p7 => ?_⟩
      refine ⟨_,rfl,p,_,_,rfl,p7,by omega,⟨by decide,by decide⟩,fun r8 H8 a8 b8' b8 p8 => ⟨_,_,rfl,rfl,?_⟩⟩
      exact fq (B6.trans (b7.trans b8)) p8 (by omega) a7 (by omega) (bits_le (bits_small (by omega) (by omega)) (by decide)) (bits_le (bits_small (by omega) (by omega)) (by decide))
    · refine ⟨_,rfl,_,_,rfl,rfl,⟨by decide,by decide,by decide⟩,p,_,_,rfl,p6,by omega,⟨by decide,by decide⟩,fun r7 H7 a7 b7' b7 p7 => ?_⟩
      rw [e25] at b7'
      refine ⟨sz (by simp),fun z H8 s8 f8 n8 => q z r7 1 H8 (((B6.trans b7).none (Pot.ne p7 n8) n8)) (Pot.ne p7 n8) ⟨f8,bits_le (bits101 a7 (by omega)) (by decide),by decide⟩ ⟨by decide,Int.gcd_one⟩ a7 ((B6.trans b7).trans (But.of s8)) ((p7.same s8).mono (by omega))⟩
def spFolded : Sp := fun vs H Q _ => ∃ (a : Addr) (cs : List Int),vs = [.ref a,.int 4] ∧ H a = some (.lst (cs.map V.int)) ∧ cs.length ≤ 100 ∧ ∀ (r : Addr) (zs : List Int) (H' : Hp),H' r = some (.lst (zs.map V.int)) → Same H H' → Q (.ref r) H'
theorem S_law_folded : FnScope ["cells","many","found","k","cell"] ["cells","many"] (defScope (top 32)) := ⟨rfl,rfl,rfl,by decide +kernel,rfl,by decide +kernel,by decide +kernel⟩
theorem fn_law_folded (D_law_folded : Df K mg "_law_folded" (top 32)) (T : Txt mg) : Fn P w K mg base "_law_folded" ["cells","many"] 1 spFolded := by
  refine D_law_folded.fn S_law_folded (fun _ _ _ _ _ _ us hl => by obtain ⟨_,_,rfl⟩ := len2 hl; rfl) (fun vs H Q E h => ?_) (fun f cdv A outer s H vs Q E hr h => ?_)
  · obtain ⟨a,cs,rfl,_⟩ := h
    rfl
  · obtain ⟨a,cs,rfl,ea,hc,q⟩ := h
    refine ⟨_,(pss_cons (ps_set (i := 2) S_law_folded.nd rfl (Or.inl rfl) (pe_op op_repA (pe_lstA (pa_cons pe_int pa_nil)) (pe_callB (call_min2 rfl) (by rfl) T.z_min bt_min (pa_cons (pv 1) (pa_cons (pe_callB (call_max2 rfl) (by rfl) T.z_max bt_max (pa_cons pe_int (pa_cons (pe_callB call_len_seq (by rfl) T.z_len bt_len (pa_cons (pv 0) pa_nil)) pa_nil))) pa_nil))))) (pss_cons (ps_for PassesOwn.never rfl (pi_enum rfl T.z_enumerate (pa_cons (pv 0) pa_nil)) (pg_tup rfl (pgs_cons (pg_name (i := 3) S_law_folded.nd rfl (Or.inl rfl)) (pgs_cons (pg_name (i := 4) S_law_folded.nd rfl (Or.inl rfl)) pgs_nil))) (pss_one (ps_asg (pe_op op_add (pe_op op_mulX (pe_ix ix_list (pv 2) (pe_op op_mod (pv 3) (pe_callB call_len_seq (by rfl) T.z_len bt_len (pa_cons (pv 2) pa_nil))) (fun _ _ => rfl)) pe_int) (pv 4)) (pg_sub (pv 2) (pe_op op_mod (pv 3) (pe_callB call_len_seq (by rfl) T.z_len bt_len (pa_cons (pv 2) pa_nil))) set_listA)))) (pss_one (ps_ret (pv 2))))),?_⟩
    have e63 : (2 : Int) ^ 63 = 9223372036854775808 := by decide
    have hcl : (cs.map V.int).length = cs.length := List.length_map _
    refine ⟨sz (by simp),fun c1 H1 s1 f1 n1 => ?_⟩
    refine ⟨_,rfl,_,rfl,a,_,rfl,.inl (SqL.of (s1 _ _ ea)),_,_,rfl,_,_,rfl,?_⟩
    have hM : 1 ≤ (if (if (((cs.map V.int).length : Nat) : Int) > 1 then (((cs.map V.int).length : Nat) : Int) else 1) < 4 then (if (((cs.map V.int).length : Nat) : Int) > 1 then (((cs.map V.int).length : Nat) : Int) else 1) else 4) ∧ (if (if (((cs.map V.int).length : Nat) : Int) > 1 then (((cs.map V.int).length : Nat) : Int) else 1) < 4 then (if (((cs.map V.int).length : Nat) : Int) > 1 then (((cs.map V.int).length : Nat) : Int) else 1) else 4) ≤ 4 := by
      split <;> split <;> omega
    generalize (if (if (((cs.map V.int).length : Nat) : Int) > 1 then (((cs.map V.int).length : Nat) : Int) else 1) < 4 then (if (((cs.map V.int).length : Nat) : Int) > 1 then (((cs.map V.int).length : Nat) : Int) else 1) else 4) = M at hM
    refine ⟨c1,_,_,rfl,rfl,f1,by rw [e63]; omega,by rw [e63]; omega,sz (by simp; omega),fun r H2 s2 f2 n2 => ?_⟩
    rw [List.flatten_replicate_singleton,show List.replicate M.toNat (V.int 0) = (List.replicate M.toNat 0).map V.int from List.map_replicate.symm] at f2
    have nr : H r = none := s1.free n2
    have ea2 := (s1.trans s2) _ _ ea
    have nar : a ≠ r := ne_of_none ((s1) _ _ ea) n2
    refine ⟨_,rfl,a,rfl,⟨_,SqL.of ea2⟩,for_enum (K := K) (a := a) (xs := cs.map V.int) (fun i σ H3 => ∃ (z1 z2 : Option V) (zs : List Int),σ = [some (.ref a),some (.int 4),some (.ref r),z1,z2] ∧ zs.length = M.toNat ∧ H3 r = some (.lst (zs.map V.int)) ∧ Same H H3)
      ⟨_,_,_,rfl,by simp,f2,s1.trans s2⟩ (fun i σ H3 _ ⟨_,_,_,_,_,_,s3⟩ => SqL.of (s3 _ _ ea)) ?_ ?_⟩
    · rintro i x pp σ H3 H4 hx ⟨z1,z2,zs,rfl,hz,e3,s3⟩ s4 f4
      rw [List.getElem?_map] at hx
      obtain ⟨c,hc',rfl⟩ := Option.map_eq_some_iff.mp hx
      have e4 := s4 _ _ e3
      have hzl : (((zs.map V.int).length : Nat) : Int) = M := by rw [List.length_map,hz]; omega
      have m0 := Int.emod_nonneg (i : Int) (show M ≠ 0 by omega)
      have m1 := Int.emod_lt_of_pos (i : Int) (show 0 < M by omega)
      refine ⟨pp,_,rfl,SqT.of f4,rfl,_,_,rfl,_,_,rfl,rfl,?_⟩
      refine ⟨_,rfl,_,rfl,_,rfl,r,_,rfl,.inl (SqL.of e4),_,_,rfl,rfl,by rw [hzl]; omega,?_⟩
      rw [hzl]
      refine ⟨r,_,_,_,rfl,rfl,SqL.of e4,at_int ((i : Int) % M).toNat (by omega) (by omega),_,_,rfl,rfl,CM.r ⟨by decide,by decide⟩,_,rfl,_,_,rfl,rfl,?_⟩
      refine ⟨_,rfl,_,rfl,_,rfl,r,_,rfl,.inl (SqL.of e4),_,_,rfl,rfl,by rw [hzl]; omega,?_⟩
      rw [hzl]
      refine ⟨r,_,_,_,rfl,rfl,e4,ixN_of m0 (by rw [hzl]; exact m1),fun H5 u => ?_⟩
      exact ⟨_,_,zs.set ((i : Int) % M).toNat (zs[((i : Int) % M).toNat]'(by omega) * 7 + c),rfl,by rw [List.length_set]; exact hz,by rw [u.now,← List.map_set],u.same (s3.trans s4) nr⟩
    · rintro σ H3 ⟨z1,z2,zs,rfl,hz,e3,s3⟩
      exact ⟨_,rfl,q r zs H3 e3 s3⟩
theorem at_lastP (f : Pr) (r : List Pr) : atI (prs (f :: r)) (-1) = some (.ref ((f :: r).getLast (by simp)).p) := by
  have h : prs (f :: r) = prs ((f :: r).dropLast) ++ [V.ref ((f :: r).getLast (by simp)).p] := by
    unfold prs
    rw [← List.map_singleton (f := fun (q : Pr) => V.ref q.p),← List.map_append,List.dropLast_concat_getLast]
  rw [h]
  exact atI_last _ _
theorem two_is (a b n : Int) : decide ([a,b] = [n,1]) = isP a b n := by
  unfold isP
  rw [Bool.eq_iff_iff]
  simp
theorem steps_iff {w : Str} : ∀ {ps : List Pr},stepsB w ps = true ↔ ∀ (j : Nat) u v,ps[j]? = some u → ps[j + 1]? = some v → stepB w u v = true
  | [] => by simp [stepsB]
  | [u] => by simp [stepsB]
  | u :: v :: r => by
    unfold stepsB
    rw [Bool.and_eq_true,steps_iff (ps := v :: r)]
    constructor
    · rintro ⟨h1,h2⟩ j x y ex ey
      cases j with
      | zero => cases ex; cases ey; exact h1
      | succ j => exact h2 j x y (by simpa using ex) (by simpa using ey)
    · intro h
      exact ⟨h 0 u v rfl rfl,fun j x y ex ey => h (j + 1) x y (by simpa using ex) (by simpa using ey)⟩
theorem cut_prs (ps : List Pr) : cutV (prs ps) (some 1) none = prs (ps.drop 1) := by
  unfold cutV prs
  rw [show (1 : Int) = ((1 : Nat) : Int) from rfl,HT.sIx_nat,HT.sIx_none,List.length_map,← List.map_drop]
  by_cases h : 1 ≤ ps.length
  · rw [Nat.min_eq_left h,List.take_of_length_le (by rw [List.length_map,List.length_drop]; exact Nat.le_refl _)]
  · have e0 : ps = [] := List.length_eq_zero_iff.mp (by omega)
    subst e0
    rfl
theorem fenceB_of {n m : Int} {w : Str} {L : List Pr} : fenceB n m w L = true ↔ ∃ f l,L.head? = some f ∧ L.getLast? = some l ∧ L.all (inB n m) = true ∧ (if w = wHops then L.all wholeB else true) = true ∧ fendsB n m w f l = true ∧ fstepsB w L = true := by
  cases L with
  | nil => simp [fenceB]
  | cons f r =>
    rw [fenceB_cons,Bool.and_eq_true,Bool.and_eq_true,Bool.and_eq_true]
    constructor
    · rintro ⟨h1,h2,h3,h4⟩
      exact ⟨f,_,rfl,List.getLast?_eq_some_getLast (by simp),h1,h2,h3,h4⟩
    · rintro ⟨f',l,e1,e2,h1,h2,h3,h4⟩
      cases e1
      rw [List.getLast?_eq_some_getLast (by simp)] at e2
      cases e2
      exact ⟨h1,h2,h3,h4⟩
theorem walkB_of {n m : Int} {w : Str} {L : List Pr} : walkB n m w L = true ↔ ∃ f l,L.head? = some f ∧ L.getLast? = some l ∧ L.all (inB n m) = true ∧ endsB n m w f l = true ∧ stepsB w L = true := by
  cases L with
  | nil => simp [walkB]
  | cons f r =>
    rw [walkB_cons,Bool.and_eq_true,Bool.and_eq_true]
    constructor
    · rintro ⟨h1,h2,h3⟩
      exact ⟨f,_,rfl,List.getLast?_eq_some_getLast (by simp),h1,h2,h3⟩
    · rintro ⟨f',l,e1,e2,h1,h2,h3⟩
      cases e1
      rw [List.getLast?_eq_some_getLast (by simp)] at e2
      cases e2
      exact ⟨h1,h2,h3⟩
theorem lo_neg {x y x' y' a b : Int} : lo x y x' y' a b < 0 ↔ a < ((x' - x) * (x' - x) + (y' - y) * (y' - y)) * b := by
  unfold lo sg
  split
  · omega
  · split <;> omega
def spLW : Sp := fun vs H Q _ => ∃ a : Int,vs = [.int a] ∧ Q (.bl true) H
def spLIR : Sp := fun vs H Q _ => ∃ (p : Addr) (a b : Int),vs = [.ref p] ∧ H p = some (.tup [.int a,.int b]) ∧ Low a b ∧ Q (.bl true) H
def spLIP : Sp := fun vs H Q _ => ∃ (l p : Addr) (xs : List V) (a b : Int),vs = [.ref l,.ref p] ∧ H l = some (.lst xs) ∧ xs.length ≤ 100 ∧ H p = some (.tup [.int a,.int b]) ∧ Low a b ∧ 0 ≤ a ∧ Q (.bl (decide (a ≤ ((xs.length : Int) - 1) * b))) H
def spLPs : Sp := fun vs H Q _ => ∃ (l1 l2 l : Addr) (xs1 xs2 : List V) (ps : List Pr),vs = [.ref l1,.ref l2,.ref l] ∧ (H l1 = some (.lst xs1) ∧ xs1.length ≤ 100) ∧ (H l2 = some (.lst xs2) ∧ xs2.length ≤ 100) ∧ PairsAt H l ps ∧ ∀ H',Same H H' → Q (.bl (!ps.isEmpty && ps.all (inB ((xs1.length : Int) - 1) ((xs2.length : Int) - 1)))) H'
def spLWalk : Sp := fun vs H Q _ => ∃ (l1 l2 l : Addr) (xs1 xs2 : List V) (ps : List Pr) (wy : Str),vs = [.ref l1,.ref l2,.ref l,.str wy] ∧ (H l1 = some (.lst xs1) ∧ xs1.length ≤ 100) ∧ (H l2 = some (.lst xs2) ∧ xs2.length ≤ 100) ∧ PairsAt H l ps ∧ ps.length < 900 ∧ ∀ H',Same H H' → Q (.bl (walkB ((xs1.length : Int) - 1) ((xs2.length : Int) - 1) wy ps)) H'
def dPr (q : Pr) : D := .tup [.tup [.int q.a,.int q.b],.tup [.int q.c,.int q.d]]
theorem pr_rp {H : Hp} {q : Pr} (h : PrAt H q) : Rp H 8 (.ref q.p) (dPr q) := Rp.t2 h.p_ (Rp.t2 h.x_ .int .int) (Rp.t2 h.y_ .int .int)
theorem prs_rp {H : Hp} {l : Addr} {ps : List Pr} (P : PairsAt H l ps) : Rp H 9 (.ref l) (.lst (ps.map dPr)) := .lst P.lst (by rw [prs_len,List.length_map]) fun j x d a b => by
  obtain ⟨q,hq,rfl⟩ := prs_get a
  rw [List.getElem?_map,hq] at b
  cases b
  exact pr_rp (P.pr q (List.mem_of_getElem? hq))
theorem line_rpM {H : Hp} {l : Addr} {qs : Crn} (L : LineM H l qs) : Rp H 9 (.ref l) (.lst (qs.map fun q => .tup [.int q.2.1,.int q.2.2])) := .lst L.lst (by simp) fun j x d a b => by
  rw [List.getElem?_map] at a b
  obtain ⟨q,hq,rfl⟩ := Option.map_eq_some_iff.mp a
  rw [hq] at b
  cases b
  exact Rp.t2 (L.crn q (List.mem_of_getElem? hq)).1 .int .int
theorem S_law_whole : FnScope ["found"] ["found"] (defScope (top 43)) := ⟨rfl,rfl,rfl,by decide +kernel,rfl,by decide +kernel,by decide +kernel⟩
theorem fn_law_whole (D_law_whole : Df K mg "_law_whole" (top 43)) (T : Txt mg) : Fn P w K mg base "_law_whole" ["found"] 1 spLW := by
  refine D_law_whole.fn S_law_whole (fun _ _ _ _ _ _ us hl => by obtain ⟨_,rfl⟩ := len1 hl; rfl) (fun vs H Q E h => ?_) (fun f cdv A outer s H vs Q E hr h => ?_)
  · obtain ⟨a,rfl,_⟩ := h
    rfl
  · obtain ⟨a,rfl,q⟩ := h
    refine ⟨_,(pss_one (ps_ret (pe_and (pe_callB call_isinst (by rfl) T.z_isinstance bt_isinstance (pa_cons (pv 0) (pa_cons (pe_ty T.z_int bt_int) pa_nil))) (pe_one (pe_not (pe_callB call_isinst (by rfl) T.z_isinstance bt_isinstance (pa_cons (pv 0) (pa_cons (pe_ty T.z_bool bt_bool) pa_nil)))))))),?_⟩
    refine ⟨_,rfl,_,_,"int",rfl,.int a,nice_int,_,rfl,iteTrue (by decide) ?_⟩
    refine ⟨_,rfl,_,_,"bool",rfl,.int a,nice_bool,_,rfl,?_⟩
    exact q
theorem S_law_is_ratio : FnScope ["thing"] ["thing"] (defScope (top 44)) := ⟨rfl,rfl,rfl,by decide +kernel,rfl,by decide +kernel,by decide +kernel⟩
theorem fn_law_is_ratio (D_law_is_ratio : Df K mg "_law_is_ratio" (top 44)) (F_law_whole : Fn P w K mg base "_law_whole" ["found"] 1 spLW) (F_law_divisor : Fn P w K mg base "_law_divisor" ["one","other"] 1 spDiv) (T : Txt mg) : Fn P w K mg base "_law_is_ratio" ["thing"] 2 spLIR := by
  refine D_law_is_ratio.fn S_law_is_ratio (fun _ _ _ _ _ _ us hl => by obtain ⟨_,rfl⟩ := len1 hl; rfl) (fun vs H Q E h => ?_) (fun f cdv A outer s H vs Q E hr h => ?_)
  · obtain ⟨p,a,b,rfl,_⟩ := h
    rfl
  · obtain ⟨p,a,b,rfl,e,lw,q⟩ := h
    refine ⟨_,(pss_cons (ps_if (pw_or (pt_not (pt_val (pe_callB call_isinst (by rfl) T.z_isinstance bt_isinstance (pa_cons (pv 0) (pa_cons (pe_ty T.z_tuple bt_tuple) pa_nil))))) (pw_or (pt_cmpR op_ne (pe_callB call_len_seq (by rfl) T.z_len bt_len (pa_cons (pv 0) pa_nil)) pe_int (nomark _)) (pw_or (pt_not (pt_val (pe_fn F_law_whole (hr.mono (by decide)) (by rfl) (pa_cons (pe_ix ix_tup (pv 0) pe_int (fun _ _ => rfl)) pa_nil)))) (pw_or1 (pt_not (pt_val (pe_fn F_law_whole (hr.mono (by decide)) (by rfl) (pa_cons (pe_ix ix_tup (pv 0) pe_int (fun _ _ => rfl)) pa_nil)))))))).pt (pss_one (ps_ret pe_bl)) pss_nil) (pss_one (ps_ret (pe_and (pe_cmpR op_gt (pe_ix ix_tup (pv 0) pe_int (fun _ _ => rfl)) pe_int (nomark _)) (pe_one (pe_cmpR op_eq (pe_fn F_law_divisor (hr.mono (by decide)) (by rfl) (pa_cons (pe_ix ix_tup (pv 0) pe_int (fun _ _ => rfl)) (pa_cons (pe_ix ix_tup (pv 0) pe_int (fun _ _ => rfl)) pa_nil))) pe_int (nomark _))))))),?_⟩
    refine ⟨_,rfl,_,_,"tuple",rfl,.tup e,nice_tuple,_,rfl,iteFalse (by decide) ?_⟩
    refine ⟨_,rfl,p,_,rfl,.inr (SqT.of e),rfl,_,rfl,iteFalse rfl ?_⟩
    refine ⟨_,rfl,p,_,_,_,rfl,rfl,SqT.of e,rfl,a,rfl,_,rfl,iteFalse (by decide) ?_⟩
    refine ⟨_,rfl,p,_,_,_,rfl,rfl,SqT.of e,rfl,b,rfl,_,rfl,iteFalse (by decide) ?_⟩
    have hb : (0 : Int) < b := lw.pos
    refine ⟨_,rfl,p,_,_,_,rfl,rfl,SqT.of e,rfl,_,_,rfl,rfl,_,rfl,iteTrue (decide_eq_true hb) ?_⟩
    refine ⟨_,rfl,p,_,_,_,rfl,rfl,SqT.of e,rfl,_,rfl,p,_,_,_,rfl,rfl,SqT.of e,rfl,a,b,rfl,by omega,rfl,?_⟩
    rw [show (Int.gcd a b : Int) = 1 by rw [lw.one]; rfl,decide_eq_true rfl]
    exact q
theorem S_law_is_place : FnScope ["line","thing"] ["line","thing"] (defScope (top 45)) := ⟨rfl,rfl,rfl,by decide +kernel,rfl,by decide +kernel,by decide +kernel⟩
theorem fn_law_is_place (D_law_is_place : Df K mg "_law_is_place" (top 45)) (F_law_is_ratio : Fn P w K mg base "_law_is_ratio" ["thing"] 2 spLIR) (T : Txt mg) : Fn P w K mg base "_law_is_place" ["line","thing"] 3 spLIP := by
  refine D_law_is_place.fn S_law_is_place (fun _ _ _ _ _ _ us hl => by obtain ⟨_,_,rfl⟩ := len2 hl; rfl) (fun vs H Q E h => ?_) (fun f cdv A outer s H vs Q E hr h => ?_)
  · obtain ⟨l,p,xs,a,b,rfl,_⟩ := h
    rfl
  · obtain ⟨l,p,xs,a,b,rfl,el,hl,e,lw,h0,q⟩ := h
    refine ⟨_,(pss_one (ps_ret (pe_and (pe_fn F_law_is_ratio (hr.mono (by decide)) (by rfl) (pa_cons (pv 1) pa_nil)) (pe_one (pe_chain op_le op_le pe_int (pe_ix ix_tup (pv 1) pe_int (fun _ _ => rfl)) (pe_op op_mulX (pe_op op_sub (pe_callB call_len_seq (by rfl) T.z_len bt_len (pa_cons (pv 0) pa_nil)) pe_int) (pe_ix ix_tup (pv 1) pe_int (fun _ _ => rfl)))))))),?_⟩
    refine ⟨_,rfl,p,a,b,rfl,e,lw,_,rfl,iteTrue rfl ?_⟩
    refine ⟨_,rfl,p,_,_,_,rfl,rfl,SqT.of e,rfl,_,_,rfl,rfl,_,rfl,iteTrue (decide_eq_true h0) ?_⟩
    exact ⟨_,rfl,l,xs,rfl,.inl (SqL.of el),_,_,rfl,rfl,_,rfl,p,_,_,_,rfl,rfl,SqT.of e,rfl,_,_,rfl,rfl,CM.l (lt64s (by omega) (by omega)),_,_,rfl,rfl,q⟩
theorem S_law_near : FnScope ["here","there","low","high"] ["here","there"] (defScope (top 46)) := ⟨rfl,rfl,rfl,by decide +kernel,rfl,by decide +kernel,by decide +kernel⟩
theorem fn_law_near (D_law_near : Df K mg "_law_near" (top 46)) (F_law_below : Fn P w K mg base "_law_below" ["one","other"] 1 spLess) : Fn P w K mg base "_law_near" ["here","there"] 2 (spGo2 shareB) := by
  refine D_law_near.fn S_law_near (fun _ _ _ _ _ _ us hl => by obtain ⟨_,_,rfl⟩ := len2 hl; rfl) (fun vs H Q E h => ?_) (fun f cdv A outer s H vs Q E hr h => ?_)
  · obtain ⟨p,q,a,b,c,d,rfl,_⟩ := h
    rfl
  · obtain ⟨p,q,a,b,c,d,rfl,ep,eq,sa,sc,k⟩ := h
    have y := k H (Same.refl _)
    unfold shareB at y
    have R : ∃ u,PSs (cxOf CX0 P w K mg base ["here","there","low","high"] "_law_near" (defScope (top 46)) f cdv A outer s H E).nox ((defBody (top 46)).drop 3) u ∧ ∀ {lo hi : Addr} {a b c d : Int},H lo = some (.tup [.int a,.int b]) → H hi = some (.tup [.int c,.int d]) → Small a b → Small c d → Q (.bl (!decide ((a / b + 1) * d < c * 1))) H → u { nx := fun _ H' => Q .non H',rt := Q } [some (.ref p),some (.ref q),some (.ref lo),some (.ref hi)] H := by
      refine ⟨_,(pss_one (ps_ret (pe_cmpR op_le (pe_ix ix_tup (pv 3) pe_int (fun _ _ => rfl)) (pe_op op_mulX (pe_op op_add (pe_op op_fdivP (pe_ix ix_tup (pv 2) pe_int (fun _ _ => rfl)) (pe_ix ix_tup (pv 2) pe_int (fun _ _ => rfl))) pe_int) (pe_ix ix_tup (pv 3) pe_int (fun _ _ => rfl))) (nomark _)))),fun {lo hi a b c d} elo ehi sa sc q => ?_⟩
      have bf : bits (a / b + 1) ≤ 1001 := bits_add (bits_ediv sa.pos sa.ba) (bits_le (m := 1) (by decide) (by decide))
      refine ⟨_,rfl,hi,_,_,_,rfl,rfl,SqT.of ehi,rfl,_,rfl,lo,_,_,_,rfl,rfl,SqT.of elo,rfl,_,rfl,lo,_,_,_,rfl,rfl,SqT.of elo,rfl,_,_,rfl,rfl,⟨sa.pos,bits_le sa.bb (by decide)⟩,_,_,rfl,rfl,_,rfl,hi,_,_,_,rfl,rfl,SqT.of ehi,rfl,_,_,rfl,rfl,CM.of bf sc.bb (by decide),_,_,rfl,rfl,?_⟩
      have e : (!decide ((a / b + 1) * d < c * 1)) = decide (c ≤ (a / b + 1) * d) := by
        rw [Int.mul_one,Bool.eq_iff_iff]
        simp
      rw [e] at q
      exact q
    obtain ⟨u,hu,fin⟩ := R
    refine ⟨_,(pss_cons (ps_set (i := 2) S_law_near.nd rfl (Or.inl rfl) (pv 0)) (pss_cons (ps_set (i := 3) S_law_near.nd rfl (Or.inl rfl) (pv 1)) (pss_cons (ps_if (pt_val (pe_fn F_law_below (hr.mono (by decide)) (by rfl) (pa_cons (pv 1) (pa_cons (pv 0) pa_nil)))) (pss_cons (ps_set (i := 2) S_law_near.nd rfl (Or.inl rfl) (pv 1)) (pss_one (ps_set (i := 3) S_law_near.nd rfl (Or.inl rfl) (pv 0)))) pss_nil) hu))),?_⟩
    refine ⟨_,rfl,_,rfl,?_⟩
    refine ⟨_,rfl,_,rfl,q,p,c,d,a,b,rfl,eq,ep,⟨bits_le sc.ba (by decide),bits_le sc.bb (by decide),bits_le sa.ba (by decide),bits_le sa.bb (by decide)⟩,_,rfl,ite3 (fun hc => ?_) (fun hc => ?_)⟩
    · rw [if_pos (dec_t hc)] at y
      exact ⟨_,rfl,_,rfl,fin eq ep sc sa y⟩
    · rw [if_neg (dec_f hc)] at y
      exact fin ep eq sa sc y
theorem S_law_are_pairs : FnScope ["one","other","thing","pair"] ["one","other","thing"] (defScope (top 47)) := ⟨rfl,rfl,rfl,by decide +kernel,rfl,by decide +kernel,by decide +kernel⟩
theorem fn_law_are_pairs (D_law_are_pairs : Df K mg "_law_are_pairs" (top 47)) (F_law_is_place : Fn P w K mg base "_law_is_place" ["line","thing"] 3 spLIP) (T : Txt mg) : Fn P w K mg base "_law_are_pairs" ["one","other","thing"] 4 spLPs := by
  refine D_law_are_pairs.fn S_law_are_pairs (fun _ _ _ _ _ _ us hl => by obtain ⟨_,_,_,rfl⟩ := len3 hl; rfl) (fun vs H Q E h => ?_) (fun f cdv A outer s H vs Q E hr h => ?_)
  · obtain ⟨l1,l2,l,xs1,xs2,ps,rfl,_⟩ := h
    rfl
  · obtain ⟨l1,l2,l,xs1,xs2,ps,rfl,⟨e1,n1⟩,⟨e2,n2⟩,PP,q⟩ := h
    refine ⟨_,(pss_cons (ps_if (pw_or (pt_not (pt_val (pe_callB call_isinst (by rfl) T.z_isinstance bt_isinstance (pa_cons (pv 2) (pa_cons (pe_ty T.z_list bt_list) pa_nil))))) (pw_or1 (pt_cmpR (op_eqD hr.units10) (pv 2) (pe_lstA pa_nil) (nomark _)))).pt (pss_one (ps_ret pe_bl)) pss_nil) (pss_cons (ps_for PassesOwn.never rfl (pi_list (pv 2)) (pg_name (i := 3) S_law_are_pairs.nd rfl (Or.inl rfl)) (pss_cons (ps_if (pw_or (pt_not (pt_val (pe_callB call_isinst (by rfl) T.z_isinstance bt_isinstance (pa_cons (pv 3) (pa_cons (pe_ty T.z_tuple bt_tuple) pa_nil))))) (pw_or1 (pt_cmpR op_ne (pe_callB call_len_seq (by rfl) T.z_len bt_len (pa_cons (pv 3) pa_nil)) pe_int (nomark _)))).pt (pss_one (ps_ret pe_bl)) pss_nil) (pss_one (ps_if (pw_or (pt_not (pt_val (pe_fn F_law_is_place (hr.mono (by decide)) (by rfl) (pa_cons (pv 0) (pa_cons (pe_ix ix_tup (pv 3) pe_int (fun _ _ => rfl)) pa_nil))))) (pw_or1 (pt_not (pt_val (pe_fn F_law_is_place (hr.mono (by decide)) (by rfl) (pa_cons (pv 1) (pa_cons (pe_ix ix_tup (pv 3) pe_int (fun _ _ => rfl)) pa_nil))))))).pt (pss_one (ps_ret pe_bl)) pss_nil)))) (pss_one (ps_ret pe_bl)))),?_⟩
    refine ⟨_,rfl,_,_,"list",rfl,.lst PP.lst,nice_list,_,rfl,iteFalse (by decide) ?_⟩
    refine ⟨_,rfl,sz (by simp),fun le H1 s1 f1 n1' => ?_⟩
    have P1 := PP.mono s1
    refine ⟨_,_,prs_rp P1,Rp.l0 f1,_,rfl,?_⟩
    cases ps with
    | nil => exact iteTrue (by rfl) (q H1 s1)
    | cons f r =>
      refine iteFalse (by rfl) ?_
      refine ⟨_,rfl,l,rfl,⟨_,SqL.of P1.lst⟩,for_list (K := K) (xs := prs (f :: r)) (fun i σ H2 => ∃ z,σ = [some (.ref l1),some (.ref l2),some (.ref l),z] ∧ H2 = H1 ∧ ∀ (j : Nat) u,j < i → (f :: r)[j]? = some u → inB ((xs1.length : Int) - 1) ((xs2.length : Int) - 1) u = true)
        ⟨_,rfl,rfl,fun j u h => absurd h (by omega)⟩ (fun i σ H2 _ ⟨_,_,e,_⟩ => by rw [e]; exact SqL.of P1.lst) ?_ ?_⟩
      · rintro i x σ H2 hx ⟨z,rfl,rfl,hin⟩
        obtain ⟨u,hu,rfl⟩ := prs_get hx
        have pu := P1.pr u (List.mem_of_getElem? hu)
        have bad : inB ((xs1.length : Int) - 1) ((xs2.length : Int) - 1) u = false → Q (.bl false) H2 := fun hb => by
          have y := q H2 s1
          have zz : ((f :: r).all (inB ((xs1.length : Int) - 1) ((xs2.length : Int) - 1))) = false := by
            rw [Bool.eq_false_iff]
            intro w
            rw [List.all_eq_true.mp w u (List.mem_of_getElem? hu)] at hb
            cases hb
          rw [zz,Bool.and_false] at y
          exact y
        refine ⟨_,rfl,_,_,"tuple",rfl,.tup pu.p_,nice_tuple,_,rfl,iteFalse (by decide) ?_⟩
        refine ⟨_,rfl,u.p,_,rfl,.inr (SqT.of pu.p_),rfl,_,rfl,iteFalse rfl ?_⟩
        refine ⟨_,rfl,_,rfl,u.p,_,_,_,rfl,rfl,SqT.of pu.p_,rfl,l1,u.x,_,_,_,rfl,s1 _ _ e1,n1,pu.x_,pu.lx,pu.nx,_,rfl,ite3 (fun h1 => ?_) (fun h1 => ?_)⟩
        · refine bad ?_
          unfold inB
          rw [show decide (u.a ≤ ((xs1.length : Int) - 1) * u.b) = false by simpa only [Bool.not_eq_true'] using h1,Bool.false_and]
        · have h1 : decide (u.a ≤ ((xs1.length : Int) - 1) * u.b) = true := by simpa only [Bool.not_eq_false'] using h1
          refine ⟨_,rfl,_,rfl,u.p,_,_,_,rfl,rfl,SqT.of pu.p_,rfl,l2,u.y,_,_,_,rfl,s1 _ _ e2,n2,pu.y_,pu.ly,pu.ny,_,rfl,ite3 (fun h2 => ?_) (fun h2 => ?_)⟩
          · refine bad ?_
            unfold inB
            rw [show decide (u.c ≤ ((xs2.length : Int) - 1) * u.d) = false by simpa only [Bool.not_eq_true'] using h2,Bool.and_false]
          · have h2 : decide (u.c ≤ ((xs2.length : Int) - 1) * u.d) = true := by simpa only [Bool.not_eq_false'] using h2
            refine ⟨_,rfl,rfl,fun j v hj hv => ?_⟩
            by_cases hji : j = i
            · subst hji
              rw [hu] at hv
              cases hv
              unfold inB
              rw [h1,h2]
              rfl
            · exact hin j v (by omega) hv
      · rintro σ H2 ⟨z,rfl,rfl,hin⟩
        have y := q H2 s1
        have zz : ((f :: r).all (inB ((xs1.length : Int) - 1) ((xs2.length : Int) - 1))) = true := by
          rw [List.all_eq_true]
          intro u hu
          obtain ⟨j,hj,e⟩ := List.getElem_of_mem hu
          exact hin j u (by rw [prs_len]; exact hj) (by rw [List.getElem?_eq_getElem hj,e])
        rw [zz] at y
        exact y
theorem S_law_goes : FnScope ["here","there","way"] ["here","there","way"] (defScope (top 48)) := ⟨rfl,rfl,rfl,by decide +kernel,rfl,by decide +kernel,by decide +kernel⟩
theorem fn_law_goes (D_law_goes : Df K mg "_law_goes" (top 48)) (F_law_below : Fn P w K mg base "_law_below" ["one","other"] 1 spLess) (F_law_near : Fn P w K mg base "_law_near" ["here","there"] 2 (spGo2 shareB)) : Fn P w K mg base "_law_goes" ["here","there","way"] 3 spMay := by
  refine D_law_goes.fn S_law_goes (fun _ _ _ _ _ _ us hl => by obtain ⟨_,_,_,rfl⟩ := len3 hl; rfl) (fun vs H Q E h => ?_) (fun f cdv A outer s H vs Q E hr h => ?_)
  · obtain ⟨p,q,a,b,c,d,wy,rfl,_⟩ := h
    rfl
  · obtain ⟨p,q,a,b,c,d,wy,rfl,ep,eq,sa,sc,k⟩ := h
    refine ⟨_,(pss_cons (ps_if (pt_cmpR op_eq (pv 2) pe_str (nomark _)) (pss_one (ps_ret (pe_and (pe_cmpR op_eq (pe_ix ix_tup (pv 0) pe_int (fun _ _ => rfl)) pe_int (nomark _)) (pe_and (pe_cmpR op_eq (pe_ix ix_tup (pv 1) pe_int (fun _ _ => rfl)) pe_int (nomark _)) (pe_one (pe_cmpR op_in_seq (pe_op op_sub (pe_ix ix_tup (pv 1) pe_int (fun _ _ => rfl)) (pe_ix ix_tup (pv 0) pe_int (fun _ _ => rfl))) (pe_tupA (pa_cons pe_int (pa_cons pe_int pa_nil))) (by rfl))))))) pss_nil) (pss_cons (ps_if (pw_and (pt_cmpR op_ne (pv 2) pe_str (nomark _)) (pw_and1 (pt_val (pe_fn F_law_below (hr.mono (by decide)) (by rfl) (pa_cons (pv 1) (pa_cons (pv 0) pa_nil)))))).pt (pss_one (ps_ret pe_bl)) pss_nil) (pss_one (ps_ret (pe_fn F_law_near (hr.mono (by decide)) (by rfl) (pa_cons (pv 0) (pa_cons (pv 1) pa_nil))))))),?_⟩
    have ds : ∀ {u v : Str} {b : Bool},decide (V.str u = V.str v) = b → decide (u = v) = b := fun {u v b} h => by
      rw [← h,Bool.eq_iff_iff]
      simp
    have di : ∀ i j : Int,decide (V.int i = V.int j) = decide (i = j) := fun i j => by
      rw [Bool.eq_iff_iff]
      simp
    unfold goB at k
    refine ⟨_,rfl,rfl,_,rfl,ite3 (fun h1 => ?_) (fun h1 => ?_)⟩
    · rw [if_pos (show wy = wHops from dec_t (ds h1))] at k
      refine ⟨_,rfl,p,_,_,_,rfl,rfl,SqT.of ep,rfl,rfl,_,rfl,?_⟩
      rw [di]
      refine ite3 (fun h1 => ?_) (fun h1 => ?_)
      · rw [h1,Bool.true_and] at k
        refine ⟨_,rfl,q,_,_,_,rfl,rfl,SqT.of eq,rfl,rfl,_,rfl,?_⟩
        rw [di]
        refine ite3 (fun h2 => ?_) (fun h2 => ?_)
        · rw [h2,Bool.true_and] at k
          refine ⟨_,rfl,q,_,_,_,rfl,rfl,SqT.of eq,rfl,_,rfl,p,_,_,_,rfl,rfl,SqT.of ep,rfl,_,_,rfl,rfl,sz (by simp),fun t H1 s1 g1 _ => ?_⟩
          refine ⟨t,_,rfl,.inr (SqT.of g1),rfl,rfl,?_⟩
          have e : inV (.int (c - a)) [.int 0,.int 1] = (decide (c - a = 0) || decide (c - a = 1)) := by
            show ((0 : Int) == (c - a) || ((1 : Int) == (c - a) || false)) = _
            rw [Bool.eq_iff_iff]
            simp only [Bool.or_eq_true,beq_iff_eq,decide_eq_true_eq,Bool.false_eq_true,or_false]
            omega
          show Q (.bl (inV (.int (c - a)) [.int 0,.int 1])) H1
          rw [e]
          exact k H1 s1
        · have y := k H (Same.refl _)
          rw [h2,Bool.false_and] at y
          exact y
      · have y := k H (Same.refl _)
        rw [h1,Bool.false_and] at y
        exact y
    rw [if_neg (show ¬ wy = wHops from dec_f (ds h1))] at k
    have near : ∀ H1,H1 = H → (∀ H',Same H H' → Q (.bl (shareB a b c d)) H') → spGo2 shareB [.ref p,.ref q] H1 Q E0 := fun H1 e kk => by
      subst e
      exact ⟨p,q,a,b,c,d,rfl,ep,eq,sa,sc,kk⟩
    refine ⟨_,rfl,rfl,_,rfl,ite3 (fun h2 => ?_) (fun h2 => ?_)⟩
    · have h2' : decide (V.str wy = V.str (Str.ofString "free")) = false := by simpa only [Bool.not_eq_true'] using h2
      rw [if_neg (show ¬ wy = wFree from dec_f (ds h2'))] at k
      refine ⟨_,rfl,_,rfl,q,p,c,d,a,b,rfl,eq,ep,⟨bits_le sc.ba (by decide),bits_le sc.bb (by decide),bits_le sa.ba (by decide),bits_le sa.bb (by decide)⟩,_,rfl,ite3 (fun h3 => ?_) (fun h3 => ?_)⟩
      · have y := k H (Same.refl _)
        rw [h3] at y
        exact y
      · rw [h3] at k
        exact ⟨_,rfl,_,rfl,near _ rfl fun H' s' => k H' s'⟩
    · have h2' : decide (V.str wy = V.str (Str.ofString "free")) = true := by simpa only [Bool.not_eq_false'] using h2
      rw [if_pos (show wy = wFree from dec_t (ds h2'))] at k
      exact ⟨_,rfl,_,rfl,near _ rfl k⟩
theorem S_law_is_walk : FnScope ["one","other","thing","way","first","last","pair","later"] ["one","other","thing","way"] (defScope (top 49)) := ⟨rfl,rfl,rfl,by decide +kernel,rfl,by decide +kernel,by decide +kernel⟩
theorem fn_law_is_walk (D_law_is_walk : Df K mg "_law_is_walk" (top 49)) (F_law_are_pairs : Fn P w K mg base "_law_are_pairs" ["one","other","thing"] 4 spLPs) (F_law_goes : Fn P w K mg base "_law_goes" ["here","there","way"] 3 spMay) (T : Txt mg) : Fn P w K mg base "_law_is_walk" ["one","other","thing","way"] 5 spLWalk := by
  refine D_law_is_walk.fn S_law_is_walk (fun _ _ _ _ _ _ us hl => by obtain ⟨_,_,_,_,rfl⟩ := len4 hl; rfl) (fun vs H Q E h => ?_) (fun f cdv A outer s H vs Q E hr h => ?_)
  · obtain ⟨l1,l2,l,xs1,xs2,ps,wy,rfl,_⟩ := h
    rfl
  · obtain ⟨l1,l2,l,xs1,xs2,ps,wy,rfl,⟨e1,n1⟩,⟨e2,n2⟩,PP,hlen,q⟩ := h
    have R : ∃ u,PSs (cxOf CX0 P w K mg base ["one","other","thing","way","first","last","pair","later"] "_law_is_walk" (defScope (top 49)) f cdv A outer s H E).nox ((defBody (top 49)).drop 5) u ∧ ∀ (f z : Pr) (r : List Pr) (H3 : Hp),PairsAt H3 l (f :: r) → (∀ H',Same H3 H' → Q (.bl (stepsB wy (f :: r))) H') → u { nx := fun _ H' => Q .non H',rt := Q } [some (.ref l1),some (.ref l2),some (.ref l),some (.str wy),some (.ref f.p),some (.ref z.p),none,none] H3 := by
      refine ⟨_,(pss_cons (ps_for PassesOwn.never rfl (pi_zip rfl T.z_zip (pa_cons (pv 2) (pa_cons (pe_slice sl_listA (pv 2) (po_some pe_int) po_none) pa_nil))) (pg_tup rfl (pgs_cons (pg_name (i := 6) S_law_is_walk.nd rfl (Or.inl rfl)) (pgs_cons (pg_name (i := 7) S_law_is_walk.nd rfl (Or.inl rfl)) pgs_nil))) (pss_one (ps_if (pw_or (pt_not (pt_val (pe_fn F_law_goes (hr.mono (by decide)) (by rfl) (pa_cons (pe_ix ix_tup (pv 6) pe_int (fun _ _ => rfl)) (pa_cons (pe_ix ix_tup (pv 7) pe_int (fun _ _ => rfl)) (pa_cons (pv 3) pa_nil)))))) (pw_or1 (pt_not (pt_val (pe_fn F_law_goes (hr.mono (by decide)) (by rfl) (pa_cons (pe_ix ix_tup (pv 6) pe_int (fun _ _ => rfl)) (pa_cons (pe_ix ix_tup (pv 7) pe_int (fun _ _ => rfl)) (pa_cons (pv 3) pa_nil)))))))).pt (pss_one (ps_ret pe_bl)) pss_nil))) (pss_one (ps_ret pe_bl))),fun f z r H3 P3 kk => ?_⟩
      have ec : cutV (prs (f :: r)) (some 1) none = prs ((f :: r).drop 1) := by
        unfold cutV prs
        rw [show (1 : Int) = ((1 : Nat) : Int) from rfl,HT.sIx_nat,HT.sIx_none,List.length_map,← List.map_drop]
        rw [Nat.min_eq_left (by simp),List.take_of_length_le (by rw [List.length_map,List.length_drop]; exact Nat.le_refl _)]
      refine ⟨_,rfl,_,rfl,_,rfl,l,_,rfl,SqL.of P3.lst,fun l2' H4 s4 f4 n4 => ?_⟩
      rw [ec] at f4
      have P4 := P3.mono s4
      refine ⟨l,l2',rfl,⟨_,SqL.of P4.lst⟩,⟨_,SqL.of f4⟩,for_zip (K := K) (xs := prs (f :: r)) (ys := prs ((f :: r).drop 1)) (fun i σ H5 => ∃ z1 z2,σ = [some (.ref l1),some (.ref l2),some (.ref l),some (.str wy),some (.ref f.p),some (.ref z.p),z1,z2] ∧ Same H4 H5 ∧ ∀ (j : Nat) u v,j < i → (f :: r)[j]? = some u → (f :: r)[j + 1]? = some v → stepB wy u v = true)
        ⟨_,_,rfl,Same.refl _,fun j u v h => absurd h (by omega)⟩ (fun i σ H5 _ ⟨_,_,_,s5,_⟩ => ⟨SqL.of (s5 _ _ P4.lst),SqL.of (s5 _ _ f4)⟩) ?_ ?_⟩
      · rintro i x y pp σ H5 H6 hx hy ⟨z1,z2,rfl,s5,hst⟩ s6 f6
        obtain ⟨u,hu,rfl⟩ := prs_get hx
        obtain ⟨v,hv,rfl⟩ := prs_get hy
        have hv' : (f :: r)[i + 1]? = some v := by rw [List.getElem?_drop] at hv; rw [Nat.add_comm]; exact hv
        have pu := (P4.pr u (List.mem_of_getElem? hu)).t (s5.trans s6).t
        have pv := (P4.pr v (List.mem_of_getElem? hv')).t (s5.trans s6).t
        have S6 := s4.trans (s5.trans s6)
        have bad : stepB wy u v = false → ∀ H',Same H6 H' → Q (.bl false) H' := fun hb H' s' => by
          have y := kk H' (S6.trans s')
          have zz : stepsB wy (f :: r) = false := by
            rw [Bool.eq_false_iff]
            intro zz
            rw [steps_iff.mp zz i u v hu hv'] at hb
            cases hb
          rw [zz] at y
          exact y
        refine ⟨pp,_,rfl,SqT.of f6,rfl,_,_,rfl,_,_,rfl,rfl,?_⟩
        refine ⟨_,rfl,u.p,_,_,_,rfl,rfl,SqT.of pu.p_,rfl,_,rfl,v.p,_,_,_,rfl,rfl,SqT.of pv.p_,rfl,_,rfl,u.x,v.x,_,_,_,_,wy,rfl,pu.x_,pv.x_,pu.sx,pv.sx,fun H7 s7 => ⟨_,rfl,ite3 (fun h1 => ?_) (fun h1 => ?_)⟩⟩
        · exact bad (by unfold stepB; rw [show goB wy u.a u.b v.a v.b = false by simpa only [Bool.not_eq_true'] using h1,Bool.false_and]) H7 s7
        have h1 : goB wy u.a u.b v.a v.b = true := by simpa only [Bool.not_eq_false'] using h1
        have pu7 := pu.t s7.t
        have pv7 := pv.t s7.t
        refine ⟨_,rfl,u.p,_,_,_,rfl,rfl,SqT.of pu7.p_,rfl,_,rfl,v.p,_,_,_,rfl,rfl,SqT.of pv7.p_,rfl,_,rfl,u.y,v.y,_,_,_,_,wy,rfl,pu7.y_,pv7.y_,pu7.sy,pv7.sy,fun H8 s8 => ⟨_,rfl,ite3 (fun h2 => ?_) (fun h2 => ?_)⟩⟩
        · exact bad (by unfold stepB; rw [show goB wy u.c u.d v.c v.d = false by simpa only [Bool.not_eq_true'] using h2,Bool.and_false]) H8 (s7.trans s8)
        have h2 : goB wy u.c u.d v.c v.d = true := by simpa only [Bool.not_eq_false'] using h2
        refine ⟨_,_,rfl,s5.trans (s6.trans (s7.trans s8)),fun j a b hj ha hb => ?_⟩
        by_cases hji : j = i
        · subst hji
          rw [hu] at ha
          rw [hv'] at hb
          cases ha
          cases hb
          unfold stepB
          rw [h1,h2]
          rfl
        · exact hst j a b (by omega) ha hb
      · rintro σ H5 ⟨z1,z2,rfl,s5,hst⟩
        have y := kk H5 (s4.trans s5)
        have zz : stepsB wy (f :: r) = true := by
          rw [steps_iff]
          intro j u v hu hv
          refine hst j u v ?_ hu hv
          have := (List.getElem?_eq_some_iff.mp hv).1
          rw [prs_len,prs_len,List.length_drop]
          omega
        rw [zz] at y
        exact y
    obtain ⟨u,hu,steps⟩ := R
    refine ⟨_,(pss_cons (ps_if (pt_not (pt_val (pe_fn F_law_are_pairs (hr.mono (by decide)) (by rfl) (pa_cons (pv 0) (pa_cons (pv 1) (pa_cons (pv 2) pa_nil)))))) (pss_one (ps_ret pe_bl)) pss_nil) (pss_cons (ps_set (i := 4) S_law_is_walk.nd rfl (Or.inl rfl) (pe_ix ix_list (pv 2) pe_int (fun _ _ => rfl))) (pss_cons (ps_set (i := 5) S_law_is_walk.nd rfl (Or.inl rfl) (pe_ix ix_list (pv 2) (pe_un un_neg pe_int) (fun _ _ => rfl))) (pss_cons (ps_if (pw_or (pt_cmpR (op_neI hr.units0) (pe_ix ix_tup (pv 4) pe_int (fun _ _ => rfl)) (pe_tupA (pa_cons pe_int (pa_cons pe_int pa_nil))) (nomark _)) (pw_or1 (pt_cmpR (op_neI hr.units0) (pe_ix ix_tup (pv 5) pe_int (fun _ _ => rfl)) (pe_tupA (pa_cons (pe_op op_sub (pe_callB call_len_seq (by rfl) T.z_len bt_len (pa_cons (pv 0) pa_nil)) pe_int) (pa_cons pe_int pa_nil))) (nomark _)))).pt (pss_one (ps_ret pe_bl)) pss_nil) (pss_cons (ps_if (pw_and (pt_cmpR op_ne (pv 3) pe_str (nomark _)) (pw_and1 (pw_or (pt_cmpR (op_neI hr.units0) (pe_ix ix_tup (pv 4) pe_int (fun _ _ => rfl)) (pe_tupA (pa_cons pe_int (pa_cons pe_int pa_nil))) (nomark _)) (pw_or1 (pt_cmpR (op_neI hr.units0) (pe_ix ix_tup (pv 5) pe_int (fun _ _ => rfl)) (pe_tupA (pa_cons (pe_op op_sub (pe_callB call_len_seq (by rfl) T.z_len bt_len (pa_cons (pv 1) pa_nil)) pe_int) (pa_cons pe_int pa_nil))) (nomark _)))).pt)).pt (pss_one (ps_ret pe_bl)) pss_nil) hu))))),?_⟩
    refine ⟨_,rfl,_,rfl,_,rfl,l1,l2,l,xs1,xs2,ps,rfl,⟨e1,n1⟩,⟨e2,n2⟩,PP,fun H0 s0 => ⟨_,rfl,ite3 (fun h0 => ?_) (fun h0 => ?_)⟩⟩
    · have h0 : (!ps.isEmpty && ps.all (inB ((xs1.length : Int) - 1) ((xs2.length : Int) - 1))) = false := by simpa only [Bool.not_eq_true'] using h0
      have y := q H0 s0
      have z : walkB ((xs1.length : Int) - 1) ((xs2.length : Int) - 1) wy ps = false := by
        cases ps with
        | nil => rfl
        | cons f r =>
          rw [walkB_cons]
          rw [show (f :: r).all (inB ((xs1.length : Int) - 1) ((xs2.length : Int) - 1)) = false from h0,Bool.false_and]
      rw [z] at y
      exact y
    have h0 : (!ps.isEmpty && ps.all (inB ((xs1.length : Int) - 1) ((xs2.length : Int) - 1))) = true := by simpa only [Bool.not_eq_false'] using h0
    match ps,PP,hlen,q,h0 with
    | [],PP,hlen,q,h0 => cases h0
    | f :: r,PP,hlen,q,h0 =>
    have h0 : (f :: r).all (inB ((xs1.length : Int) - 1) ((xs2.length : Int) - 1)) = true := h0
    rw [walkB_cons,h0,Bool.true_and] at q
    have PP := PP.mono s0
    have e1 := s0 _ _ e1
    have e2 := s0 _ _ e2
    have q : ∀ H',Same H0 H' → Q (.bl (endsB ((xs1.length : Int) - 1) ((xs2.length : Int) - 1) wy f ((f :: r).getLast (by simp)) && stepsB wy (f :: r))) H' := fun H' s' => q H' (s0.trans s')
    have hf := PP.pr f (by simp)
    have hl := PP.pr _ (List.getLast_mem (l := f :: r) (by simp))
    refine ⟨_,rfl,l,_,_,_,rfl,rfl,SqL.of PP.lst,at_head (V.ref f.p) (prs r),?_⟩
    refine ⟨_,rfl,_,rfl,l,_,_,_,rfl,rfl,SqL.of PP.lst,at_lastP f r,?_⟩
    generalize (f :: r).getLast (by simp) = z at *
    unfold endsB at q
    refine ⟨_,rfl,f.p,_,_,_,rfl,rfl,SqT.of hf.p_,rfl,sz (by simp),fun t1 H1 s1 g1 _ => ?_⟩
    refine ⟨f.x,t1,[f.a,f.b],[0,1],rfl,rfl,SqT.of (s1 _ _ hf.x_),SqT.of g1,_,rfl,?_⟩
    show if (!decide ([f.a,f.b] = [0,1])) = true then _ else _
    rw [two_is]
    refine ite3 (fun c1 => ?_) (fun c1 => ?_)
    · have c1' : isP f.a f.b 0 = false := by simpa using c1
      have y := q H1 s1
      rw [c1'] at y
      exact y
    have c1' : isP f.a f.b 0 = true := by simpa using c1
    rw [c1',Bool.true_and] at q
    have hl1 := hl.t s1.t
    refine ⟨_,rfl,z.p,_,_,_,rfl,rfl,SqT.of hl1.p_,rfl,_,rfl,l1,xs1,rfl,.inl (SqL.of (s1 _ _ e1)),_,_,rfl,rfl,sz (by simp),fun t2 H2 s2 g2 _ => ?_⟩
    refine ⟨z.x,t2,[z.a,z.b],[(xs1.length : Int) - 1,1],rfl,rfl,SqT.of (s2 _ _ hl1.x_),SqT.of g2,_,rfl,?_⟩
    show if (!decide ([z.a,z.b] = [(xs1.length : Int) - 1,1])) = true then _ else _
    rw [two_is]
    refine ite3 (fun c2 => ?_) (fun c2 => ?_)
    · have c2' : isP z.a z.b ((xs1.length : Int) - 1) = false := by simpa using c2
      have y := q H2 (s1.trans s2)
      rw [c2'] at y
      exact y
    have c2' : isP z.a z.b ((xs1.length : Int) - 1) = true := by simpa using c2
    rw [c2'] at q
    have s12 := s1.trans s2
    refine ⟨_,rfl,rfl,_,rfl,ite3 (fun c3 => ?_) (fun c3 => ?_)⟩
    · have e : ¬ wy = wPart := fun z => by
        subst z
        exact absurd c3 (by decide)
      rw [if_pos rfl,if_neg e] at q
      have hf2 := hf.t s12.t
      have hl2 := hl1.t s2.t
      refine ⟨_,rfl,f.p,_,_,_,rfl,rfl,SqT.of hf2.p_,rfl,sz (by simp),fun t3 H3 s3 g3 _ => ?_⟩
      refine ⟨f.y,t3,[f.c,f.d],[0,1],rfl,rfl,SqT.of (s3 _ _ hf2.y_),SqT.of g3,_,rfl,?_⟩
      show if (!decide ([f.c,f.d] = [0,1])) = true then _ else _
      rw [two_is]
      refine ite3 (fun c4 => ?_) (fun c4 => ?_)
      · have c4' : isP f.c f.d 0 = false := by simpa using c4
        have y := q H3 (s12.trans s3)
        rw [c4'] at y
        exact y
      have c4' : isP f.c f.d 0 = true := by simpa using c4
      rw [c4',Bool.true_and] at q
      have hl3 := hl2.t s3.t
      refine ⟨_,rfl,z.p,_,_,_,rfl,rfl,SqT.of hl3.p_,rfl,_,rfl,l2,xs2,rfl,.inl (SqL.of ((s12.trans s3) _ _ e2)),_,_,rfl,rfl,sz (by simp),fun t4 H4 s4 g4 _ => ?_⟩
      refine ⟨z.y,t4,[z.c,z.d],[(xs2.length : Int) - 1,1],rfl,rfl,SqT.of (s4 _ _ hl3.y_),SqT.of g4,_,rfl,?_⟩
      show if (!decide ([z.c,z.d] = [(xs2.length : Int) - 1,1])) = true then _ else _
      rw [two_is]
      refine ite3 (fun c5 => ?_) (fun c5 => ?_)
      · have c5' : isP z.c z.d ((xs2.length : Int) - 1) = false := by simpa using c5
        have y := q H4 (s12.trans (s3.trans s4))
        rw [c5'] at y
        exact y
      have c5' : isP z.c z.d ((xs2.length : Int) - 1) = true := by simpa using c5
      rw [c5',Bool.true_and] at q
      exact steps f z r H4 (PP.mono (s12.trans (s3.trans s4))) fun H' s' => q H' ((s12.trans (s3.trans s4)).trans s')
    · have e : wy = wPart := by
        have h3' : decide (V.str wy = V.str (Str.ofString "part")) = true := by simpa only [Bool.not_eq_true',Bool.not_eq_false',Bool.not_eq_false] using c3
        have := dec_t h3'
        cases this
        rfl
      rw [if_pos rfl,if_pos e,Bool.true_and] at q
      exact steps f z r H2 (PP.mono s12) fun H' s' => q H' (s12.trans s')
theorem S_law_back : FnScope ["pair","later"] ["pair","later"] (defScope (top 50)) := ⟨rfl,rfl,rfl,by decide +kernel,rfl,by decide +kernel,by decide +kernel⟩
theorem fn_law_back (D_law_back : Df K mg "_law_back" (top 50)) (F_law_below : Fn P w K mg base "_law_below" ["one","other"] 1 spLess) : Fn P w K mg base "_law_back" ["pair","later"] 2 (spTwo backB) := by
  refine D_law_back.fn S_law_back (fun _ _ _ _ _ _ us hl => by obtain ⟨_,_,rfl⟩ := len2 hl; rfl) (fun vs H Q E h => ?_) (fun f cdv A outer s H vs Q E hr h => ?_)
  · obtain ⟨u,v,rfl,_⟩ := h
    rfl
  · obtain ⟨u,v,rfl,pu,qv,q⟩ := h
    refine ⟨_,(pss_one (ps_ret (pe_and (pe_not (pe_fn F_law_below (hr.mono (by decide)) (by rfl) (pa_cons (pe_ix ix_tup (pv 0) pe_int (fun _ _ => rfl)) (pa_cons (pe_ix ix_tup (pv 1) pe_int (fun _ _ => rfl)) pa_nil)))) (pe_one (pe_not (pe_fn F_law_below (hr.mono (by decide)) (by rfl) (pa_cons (pe_ix ix_tup (pv 1) pe_int (fun _ _ => rfl)) (pa_cons (pe_ix ix_tup (pv 0) pe_int (fun _ _ => rfl)) pa_nil)))))))),?_⟩
    unfold backB ltB at q
    have b := ltB_bits pu qv
    refine ⟨_,rfl,u.p,_,_,_,rfl,rfl,SqT.of pu.p_,rfl,_,rfl,v.p,_,_,_,rfl,rfl,SqT.of qv.p_,rfl,u.x,v.x,_,_,_,_,rfl,pu.x_,qv.x_,b.1,_,rfl,_,rfl,ite3 (fun h1 => ?_) (fun h1 => ?_)⟩
    · have y := q H (Same.refl _)
      rw [h1,Bool.true_and] at y
      exact ⟨_,rfl,v.p,_,_,_,rfl,rfl,SqT.of qv.p_,rfl,_,rfl,u.p,_,_,_,rfl,rfl,SqT.of pu.p_,rfl,v.y,u.y,_,_,_,_,rfl,qv.y_,pu.y_,b.2,_,rfl,y⟩
    · have y := q H (Same.refl _)
      rw [h1,Bool.false_and] at y
      exact y
theorem S_law_steps : FnScope ["pair","later","way","x","y","a","b"] ["pair","later","way"] (defScope (top 51)) := ⟨rfl,rfl,rfl,by decide +kernel,rfl,by decide +kernel,by decide +kernel⟩
theorem fn_law_steps (D_law_steps : Df K mg "_law_steps" (top 51)) (F_law_back : Fn P w K mg base "_law_back" ["pair","later"] 2 (spTwo backB)) (F_law_near : Fn P w K mg base "_law_near" ["here","there"] 2 (spGo2 shareB)) (F_law_below : Fn P w K mg base "_law_below" ["one","other"] 1 spLess) : Fn P w K mg base "_law_steps" ["pair","later","way"] 3 spLStp := by
  refine D_law_steps.fn S_law_steps (fun _ _ _ _ _ _ us hl => by obtain ⟨_,_,_,rfl⟩ := len3 hl; rfl) (fun vs H Q E h => ?_) (fun f cdv A outer s H vs Q E hr h => ?_)
  · obtain ⟨u,v,wy,rfl,_⟩ := h
    rfl
  · obtain ⟨u,v,wy,rfl,pu,qv,k⟩ := h
    have bb := ltB_bits pu qv
    have R5 : ∃ p5,PSs (cxOf CX0 P w K mg base ["pair","later","way","x","y","a","b"] "_law_steps" (defScope (top 51)) f cdv A outer s H E).nox ((defBody (top 51)).drop 5) p5 ∧ ∀ H2,Same H H2 → (∀ H',Same H2 H' → Q (.bl (lY wy u v)) H') → p5 { nx := fun _ H' => Q .non H',rt := Q } [some (.ref u.p),some (.ref v.p),some (.str wy),some (.ref u.x),some (.ref u.y),some (.ref v.x),some (.ref v.y)] H2 := by
      refine ⟨_,(pss_one (ps_ret (pe_and (pe_cmpR (op_eqI hr.units0) (pv 4) (pv 6) (nomark _)) (pe_and (pe_cmpR op_eq (pe_ix ix_tup (pv 4) pe_int (fun _ _ => rfl)) pe_int (nomark _)) (pe_and (pe_fn F_law_near (hr.mono (by decide)) (by rfl) (pa_cons (pv 3) (pa_cons (pv 5) pa_nil))) (pe_one (pe_or (pe_cmpR op_eq (pv 2) pe_str (nomark _)) (pe_one (pe_fn F_law_below (hr.mono (by decide)) (by rfl) (pa_cons (pv 3) (pa_cons (pv 5) pa_nil))))))))))),fun H2 s2 q => ?_⟩
      have p2 := pu.t s2.t
      have q2 := qv.t s2.t
      unfold lY keepY at q
      refine ⟨_,rfl,_,rfl,u.y,v.y,[u.c,u.d],[v.c,v.d],rfl,rfl,SqT.of p2.y_,SqT.of q2.y_,_,rfl,?_⟩
      rw [if_neg (show ¬ (false = true) by decide)]
      refine ite3 (fun h1 => ?_) (fun h1 => ?_)
      · refine ⟨_,rfl,u.y,_,_,_,rfl,rfl,SqT.of p2.y_,rfl,rfl,_,rfl,?_⟩
        rw [di]
        refine ite3 (fun h2 => ?_) (fun h2 => ?_)
        · refine ⟨_,rfl,_,rfl,u.x,v.x,_,_,_,_,rfl,p2.x_,q2.x_,p2.sx,q2.sx,fun H3 s3 => ⟨_,rfl,ite3 (fun h3 => ?_) (fun h3 => ?_)⟩⟩
          · have y := q H3 s3
            rw [h1,h2,h3] at y
            refine ⟨_,rfl,rfl,_,rfl,ite3 (fun c => ?_) (fun c => ?_)⟩
            · rw [show frB wy = true from ds c] at y
              exact y
            · rw [show frB wy = false from ds c] at y
              have p3 := p2.t s3.t
              have q3 := q2.t s3.t
              exact ⟨_,rfl,_,rfl,u.x,v.x,_,_,_,_,rfl,p3.x_,q3.x_,bb.1,y⟩
          · have y := q H3 s3
            rw [h1,h2,h3] at y
            exact y
        · have y := q H2 (Same.refl _)
          rw [h1,h2] at y
          exact y
      · have y := q H2 (Same.refl _)
        rw [h1] at y
        exact y
    obtain ⟨p5,hp5,rd5⟩ := R5
    have R4 : ∃ p4,PSs (cxOf CX0 P w K mg base ["pair","later","way","x","y","a","b"] "_law_steps" (defScope (top 51)) f cdv A outer s H E).nox ((defBody (top 51)).drop 4) p4 ∧ ∀ H2,Same H H2 → (∀ H',Same H2 H' → Q (.bl (lX wy u v || lY wy u v)) H') → p4 { nx := fun _ H' => Q .non H',rt := Q } [some (.ref u.p),some (.ref v.p),some (.str wy),some (.ref u.x),some (.ref u.y),some (.ref v.x),some (.ref v.y)] H2 := by
      refine ⟨_,pss_cons (ps_if (pw_and (pt_cmpR (op_eqI hr.units0) (pv 3) (pv 5) (nomark _)) (pw_and (pt_cmpR op_eq (pe_ix ix_tup (pv 3) pe_int (fun _ _ => rfl)) pe_int (nomark _)) (pw_and (pt_val (pe_fn F_law_near (hr.mono (by decide)) (by rfl) (pa_cons (pv 4) (pa_cons (pv 6) pa_nil)))) (pw_and1 (pw_or (pt_cmpR op_eq (pv 2) pe_str (nomark _)) (pw_or1 (pt_val (pe_fn F_law_below (hr.mono (by decide)) (by rfl) (pa_cons (pv 6) (pa_cons (pv 4) pa_nil)))))).pt)))).pt (pss_one (ps_ret pe_bl)) pss_nil) hp5,fun H2 s2 q => ?_⟩
      have p2 := pu.t s2.t
      have q2 := qv.t s2.t
      have no : lX wy u v = false → ∀ H3,Same H2 H3 → p5 { nx := fun _ H' => Q .non H',rt := Q } [some (.ref u.p),some (.ref v.p),some (.str wy),some (.ref u.x),some (.ref u.y),some (.ref v.x),some (.ref v.y)] H3 := fun e H3 s3 => rd5 H3 (s2.trans s3) fun H' s' => by
        have y := q H' (s3.trans s')
        rw [e,Bool.false_or] at y
        exact y
      have yes : lX wy u v = true → ∀ H3,Same H2 H3 → Q (.bl true) H3 := fun e H3 s3 => by
        have y := q H3 s3
        rw [e,Bool.true_or] at y
        exact y
      unfold lX keepX at no yes
      refine ⟨_,rfl,_,rfl,u.x,v.x,[u.a,u.b],[v.a,v.b],rfl,rfl,SqT.of p2.x_,SqT.of q2.x_,_,rfl,?_⟩
      rw [if_neg (show ¬ (false = true) by decide)]
      refine ite3 (fun h1 => ?_) (fun h1 => ?_)
      · refine ⟨_,rfl,u.x,_,_,_,rfl,rfl,SqT.of p2.x_,rfl,rfl,_,rfl,?_⟩
        rw [di]
        refine ite3 (fun h2 => ?_) (fun h2 => ?_)
        · refine ⟨_,rfl,_,rfl,u.y,v.y,_,_,_,_,rfl,p2.y_,q2.y_,p2.sy,q2.sy,fun H3 s3 => ⟨_,rfl,ite3 (fun h3 => ?_) (fun h3 => ?_)⟩⟩
          · rw [h1,h2,h3] at no yes
            refine ⟨_,rfl,rfl,_,rfl,ite3 (fun c => ?_) (fun c => ?_)⟩
            · exact yes (by rw [show frB wy = true from ds c]; rfl) H3 s3
            · rw [show frB wy = false from ds c] at no yes
              have p3 := p2.t s3.t
              have q3 := q2.t s3.t
              refine ⟨_,rfl,_,rfl,v.y,u.y,_,_,_,_,rfl,q3.y_,p3.y_,bb.2,_,rfl,ite3 (fun h4 => ?_) (fun h4 => ?_)⟩
              · exact yes (by unfold ltB; rw [h4]; rfl) H3 s3
              · exact no (by unfold ltB; rw [h4]; rfl) H3 s3
          · exact no (by rw [h1,h2,h3]; rfl) H3 s3
        · exact no (by rw [h1,h2]; rfl) H2 (Same.refl _)
      · exact no (by rw [h1]; rfl) H2 (Same.refl _)
    obtain ⟨p4,hp4,rd4⟩ := R4
    refine ⟨_,(pss_cons (ps_asg (pv 0) (pg_tup rfl (pgs_cons (pg_name (i := 3) S_law_steps.nd rfl (Or.inl rfl)) (pgs_cons (pg_name (i := 4) S_law_steps.nd rfl (Or.inl rfl)) pgs_nil)))) (pss_cons (ps_asg (pv 1) (pg_tup rfl (pgs_cons (pg_name (i := 5) S_law_steps.nd rfl (Or.inl rfl)) (pgs_cons (pg_name (i := 6) S_law_steps.nd rfl (Or.inl rfl)) pgs_nil)))) (pss_cons (ps_if (pt_cmpR op_eq (pv 2) pe_str (nomark _)) (pss_cons (ps_if (pw_or (pt_cmpR op_gt (pe_ix ix_tup (pv 3) pe_int (fun _ _ => rfl)) pe_int (nomark _)) (pw_or (pt_cmpR op_gt (pe_ix ix_tup (pv 4) pe_int (fun _ _ => rfl)) pe_int (nomark _)) (pw_or (pt_cmpR op_gt (pe_ix ix_tup (pv 5) pe_int (fun _ _ => rfl)) pe_int (nomark _)) (pw_or1 (pt_cmpR op_gt (pe_ix ix_tup (pv 6) pe_int (fun _ _ => rfl)) pe_int (nomark _)))))).pt (pss_one (ps_ret pe_bl)) pss_nil) (pss_one (ps_ret (pe_or (pe_and (pe_cmpR op_le (pe_ix ix_tup (pv 5) pe_int (fun _ _ => rfl)) (pe_ix ix_tup (pv 3) pe_int (fun _ _ => rfl)) (nomark _)) (pe_one (pe_cmpR op_ge (pe_ix ix_tup (pv 6) pe_int (fun _ _ => rfl)) (pe_op op_sub (pe_ix ix_tup (pv 4) pe_int (fun _ _ => rfl)) pe_int) (nomark _)))) (pe_one (pe_and (pe_cmpR op_le (pe_ix ix_tup (pv 5) pe_int (fun _ _ => rfl)) (pe_op op_add (pe_ix ix_tup (pv 3) pe_int (fun _ _ => rfl)) pe_int) (nomark _)) (pe_one (pe_cmpR op_ge (pe_ix ix_tup (pv 6) pe_int (fun _ _ => rfl)) (pe_ix ix_tup (pv 4) pe_int (fun _ _ => rfl)) (nomark _))))))))) pss_nil) (pss_cons (ps_if (pw_and (pt_cmpR op_ne (pv 2) pe_str (nomark _)) (pw_and1 (pt_val (pe_fn F_law_back (hr.mono (by decide)) (by rfl) (pa_cons (pv 0) (pa_cons (pv 1) pa_nil)))))).pt (pss_one (ps_ret pe_bl)) pss_nil) hp4)))),?_⟩
    refine ⟨_,rfl,u.p,_,rfl,SqT.of pu.p_,rfl,_,_,rfl,_,_,rfl,rfl,?_⟩
    refine ⟨_,rfl,v.p,_,rfl,SqT.of qv.p_,rfl,_,_,rfl,_,_,rfl,rfl,?_⟩
    refine ⟨_,rfl,rfl,_,rfl,ite3 (fun c1 => ?_) (fun c1 => ?_)⟩
    · have ew : wy = wHops := dec_t (ds c1)
      have y := k H (Same.refl _)
      unfold lstB wholeB at y
      rw [if_pos ew] at y
      have gt : ∀ {n : Int} {b : Bool},1 ≤ n → decide (n > 1) = b → decide (n = 1) = !b := fun {n b} hn h => by
        cases b with
        | true => exact decide_eq_false (by have := dec_t h; omega)
        | false => exact decide_eq_true (by have := dec_f h; omega)
      refine ⟨_,rfl,u.x,_,_,_,rfl,rfl,SqT.of pu.x_,rfl,_,_,rfl,rfl,_,rfl,ite3 (fun g1 => ?_) (fun g1 => ?_)⟩
      · rw [gt pu.lx.pos g1] at y
        exact y
      refine ⟨_,rfl,u.y,_,_,_,rfl,rfl,SqT.of pu.y_,rfl,_,_,rfl,rfl,_,rfl,ite3 (fun g2 => ?_) (fun g2 => ?_)⟩
      · rw [gt pu.lx.pos g1,gt pu.ly.pos g2] at y
        exact y
      refine ⟨_,rfl,v.x,_,_,_,rfl,rfl,SqT.of qv.x_,rfl,_,_,rfl,rfl,_,rfl,ite3 (fun g3 => ?_) (fun g3 => ?_)⟩
      · rw [gt pu.lx.pos g1,gt pu.ly.pos g2,gt qv.lx.pos g3] at y
        exact y
      refine ⟨_,rfl,v.y,_,_,_,rfl,rfl,SqT.of qv.y_,rfl,_,_,rfl,rfl,_,rfl,ite3 (fun g4 => ?_) (fun g4 => ?_)⟩
      · rw [gt pu.lx.pos g1,gt pu.ly.pos g2,gt qv.lx.pos g3,gt qv.ly.pos g4] at y
        exact y
      rw [gt pu.lx.pos g1,gt pu.ly.pos g2,gt qv.lx.pos g3,gt qv.ly.pos g4] at y
      have y : Q (.bl (asideB u v)) H := y
      unfold asideB at y
      have e1 : ∀ {b : Bool},decide (v.a ≤ u.a) = b → decide (v.a - u.a ≤ 0) = b := fun h => by rw [← h]; exact decide_eq_decide.mpr (by omega)
      have e2 : ∀ {b : Bool},decide (v.c ≥ u.c - 1) = b → decide (u.c - v.c ≤ 1) = b := fun h => by rw [← h]; exact decide_eq_decide.mpr (by omega)
      have e3 : ∀ {b : Bool},decide (v.a ≤ u.a + 1) = b → decide (v.a - u.a ≤ 1) = b := fun h => by rw [← h]; exact decide_eq_decide.mpr (by omega)
      have e4 : decide (u.c - v.c ≤ 0) = decide (v.c ≥ u.c) := decide_eq_decide.mpr (by omega)
      have X1 := SqT.of (K := K) pu.x_
      have Y1 := SqT.of (K := K) pu.y_
      have X2 := SqT.of (K := K) qv.x_
      have Y2 := SqT.of (K := K) qv.y_
      rw [e4] at y
      refine ⟨_,rfl,v.x,_,_,_,rfl,rfl,X2,rfl,_,rfl,u.x,_,_,_,rfl,rfl,X1,rfl,_,_,rfl,rfl,_,rfl,ite3 (fun d1 => ?_) (fun d1 => ?_)⟩
      · rw [e1 d1] at y
        refine ⟨_,rfl,v.y,_,_,_,rfl,rfl,Y2,rfl,_,rfl,u.y,_,_,_,rfl,rfl,Y1,rfl,_,_,rfl,rfl,_,_,rfl,rfl,_,rfl,ite3 (fun d2 => ?_) (fun d2 => ?_)⟩
        · rw [e2 d2] at y
          exact y
        · rw [e2 d2] at y
          refine ⟨_,rfl,v.x,_,_,_,rfl,rfl,X2,rfl,_,rfl,u.x,_,_,_,rfl,rfl,X1,rfl,_,_,rfl,rfl,_,_,rfl,rfl,_,rfl,ite3 (fun d3 => ?_) (fun d3 => ?_)⟩
          · rw [e3 d3] at y
            exact ⟨_,rfl,v.y,_,_,_,rfl,rfl,Y2,rfl,_,rfl,u.y,_,_,_,rfl,rfl,Y1,rfl,_,_,rfl,rfl,y⟩
          · rw [e3 d3] at y
            exact y
      · rw [e1 d1] at y
        refine ⟨_,rfl,iteF ?_⟩
        refine ⟨_,rfl,v.x,_,_,_,rfl,rfl,X2,rfl,_,rfl,u.x,_,_,_,rfl,rfl,X1,rfl,_,_,rfl,rfl,_,_,rfl,rfl,_,rfl,ite3 (fun d3 => ?_) (fun d3 => ?_)⟩
        · rw [e3 d3] at y
          exact ⟨_,rfl,v.y,_,_,_,rfl,rfl,Y2,rfl,_,rfl,u.y,_,_,_,rfl,rfl,Y1,rfl,_,_,rfl,rfl,y⟩
        · rw [e3 d3] at y
          exact y
    have ew : ¬ wy = wHops := dec_f (ds c1)
    unfold lstB at k
    rw [if_neg ew] at k
    refine ⟨_,rfl,rfl,_,rfl,ite3 (fun c2 => ?_) (fun c2 => ?_)⟩
    · have ef : ¬ wy = wFree := dec_f (ds (show decide (V.str wy = V.str (Str.ofString "free")) = false by simpa only [Bool.not_eq_true'] using c2))
      rw [may_on ew ef] at k
      refine ⟨_,rfl,_,rfl,u,v,rfl,pu,qv,fun H1 s1 => ⟨_,rfl,ite3 (fun h3 => ?_) (fun h3 => ?_)⟩⟩
      · have y := k H1 s1
        rw [h3,Bool.true_or] at y
        exact y
      · rw [h3,Bool.false_or] at k
        exact rd4 H1 s1 fun H' s' => k H' (s1.trans s')
    · have ef : wy = wFree := dec_t (ds (show decide (V.str wy = V.str (Str.ofString "free")) = true by simpa only [Bool.not_eq_false'] using c2))
      rw [may_free ew ef] at k
      exact rd4 H (Same.refl _) k
theorem S_law_is_fence : FnScope ["one","other","thing","way","first","last","pair","later"] ["one","other","thing","way"] (defScope (top 52)) := ⟨rfl,rfl,rfl,by decide +kernel,rfl,by decide +kernel,by decide +kernel⟩
theorem fn_law_is_fence (D_law_is_fence : Df K mg "_law_is_fence" (top 52)) (F_law_are_pairs : Fn P w K mg base "_law_are_pairs" ["one","other","thing"] 4 spLPs) (F_law_steps : Fn P w K mg base "_law_steps" ["pair","later","way"] 3 spLStp) (T : Txt mg) : Fn P w K mg base "_law_is_fence" ["one","other","thing","way"] 5 spLFence := by
  refine D_law_is_fence.fn S_law_is_fence (fun _ _ _ _ _ _ us hl => by obtain ⟨_,_,_,_,rfl⟩ := len4 hl; rfl) (fun vs H Q E h => ?_) (fun f cdv A outer s H vs Q E hr h => ?_)
  · obtain ⟨l1,l2,l,xs1,xs2,ps,wy,rfl,_⟩ := h
    rfl
  · obtain ⟨l1,l2,l,xs1,xs2,ps,wy,rfl,⟨e1,n1⟩,⟨e2,n2⟩,PP,hlen,q⟩ := h
    have R6 : ∃ p6,PSs (cxOf CX0 P w K mg base ["one","other","thing","way","first","last","pair","later"] "_law_is_fence" (defScope (top 52)) f cdv A outer s H E).nox ((defBody (top 52)).drop 6) p6 ∧ ∀ (f z : Pr) (r : List Pr) (H3 : Hp),PairsAt H3 l (f :: r) → (∀ H',Same H3 H' → Q (.bl (lallB wy (f :: r))) H') → p6 { nx := fun _ H' => Q .non H',rt := Q } [some (.ref l1),some (.ref l2),some (.ref l),some (.str wy),some (.ref f.p),some (.ref z.p),none,none] H3 := by
      refine ⟨_,(pss_cons (ps_for PassesOwn.never rfl (pi_zip rfl T.z_zip (pa_cons (pv 2) (pa_cons (pe_slice sl_listA (pv 2) (po_some pe_int) po_none) pa_nil))) (pg_tup rfl (pgs_cons (pg_name (i := 6) S_law_is_fence.nd rfl (Or.inl rfl)) (pgs_cons (pg_name (i := 7) S_law_is_fence.nd rfl (Or.inl rfl)) pgs_nil))) (pss_one (ps_if (pt_not (pt_val (pe_fn F_law_steps (hr.mono (by decide)) (by rfl) (pa_cons (pv 6) (pa_cons (pv 7) (pa_cons (pv 3) pa_nil)))))) (pss_one (ps_ret pe_bl)) pss_nil))) (pss_one (ps_ret pe_bl))),fun f z r H3 P3 kk => ?_⟩
      refine ⟨_,rfl,_,rfl,_,rfl,l,_,rfl,SqL.of P3.lst,fun l2' H4 s4 f4 n4 => ?_⟩
      rw [cut_prs] at f4
      have P4 := P3.mono s4
      refine ⟨l,l2',rfl,⟨_,SqL.of P4.lst⟩,⟨_,SqL.of f4⟩,for_zip (K := K) (xs := prs (f :: r)) (ys := prs ((f :: r).drop 1)) (fun i σ H5 => ∃ z1 z2,σ = [some (.ref l1),some (.ref l2),some (.ref l),some (.str wy),some (.ref f.p),some (.ref z.p),z1,z2] ∧ Same H4 H5 ∧ ∀ (j : Nat) u v,j < i → (f :: r)[j]? = some u → (f :: r)[j + 1]? = some v → lstB wy u v = true)
        ⟨_,_,rfl,Same.refl _,fun j u v h => absurd h (by omega)⟩ (fun i σ H5 _ ⟨_,_,_,s5,_⟩ => ⟨SqL.of (s5 _ _ P4.lst),SqL.of (s5 _ _ f4)⟩) ?_ ?_⟩
      · rintro i x y pp σ H5 H6 hx hy ⟨z1,z2,rfl,s5,hst⟩ s6 f6
        obtain ⟨u,hu,rfl⟩ := prs_get hx
        obtain ⟨v,hv,rfl⟩ := prs_get hy
        have hv' : (f :: r)[i + 1]? = some v := by rw [List.getElem?_drop] at hv; rw [Nat.add_comm]; exact hv
        have pu := (P4.pr u (List.mem_of_getElem? hu)).t (s5.trans s6).t
        have qv := (P4.pr v (List.mem_of_getElem? hv')).t (s5.trans s6).t
        have S6 := s4.trans (s5.trans s6)
        refine ⟨pp,_,rfl,SqT.of f6,rfl,_,_,rfl,_,_,rfl,rfl,?_⟩
        refine ⟨_,rfl,_,rfl,_,rfl,u,v,wy,rfl,pu,qv,fun H7 s7 => ⟨_,rfl,ite3 (fun h1 => ?_) (fun h1 => ?_)⟩⟩
        · have h1 : lstB wy u v = false := by simpa only [Bool.not_eq_true'] using h1
          have y := kk H7 (S6.trans s7)
          have zz : lallB wy (f :: r) = false := by
            rw [Bool.eq_false_iff]
            intro zz
            rw [lall_iff.mp zz i u v hu hv'] at h1
            cases h1
          rw [zz] at y
          exact y
        have h1 : lstB wy u v = true := by simpa only [Bool.not_eq_false'] using h1
        refine ⟨_,_,rfl,s5.trans (s6.trans s7),fun j a b hj ha hb => ?_⟩
        by_cases hji : j = i
        · subst hji
          rw [hu] at ha
          rw [hv'] at hb
          cases ha
          cases hb
          exact h1
        · exact hst j a b (by omega) ha hb
      · rintro σ H5 ⟨z1,z2,rfl,s5,hst⟩
        have y := kk H5 (s4.trans s5)
        have zz : lallB wy (f :: r) = true := by
          rw [lall_iff]
          intro j u v hu hv
          refine hst j u v ?_ hu hv
          have := (List.getElem?_eq_some_iff.mp hv).1
          rw [prs_len,prs_len,List.length_drop]
          omega
        rw [zz] at y
        exact y
    obtain ⟨p6,hp6,rd6⟩ := R6
    have R5 : ∃ p5,PSs (cxOf CX0 P w K mg base ["one","other","thing","way","first","last","pair","later"] "_law_is_fence" (defScope (top 52)) f cdv A outer s H E).nox ((defBody (top 52)).drop 5) p5 ∧ ∀ (f z : Pr) (r : List Pr) (H3 : Hp),PairsAt H3 l (f :: r) → (∀ H',Same H3 H' → Q (.bl (hfB wy f && lallB wy (f :: r))) H') → p5 { nx := fun _ H' => Q .non H',rt := Q } [some (.ref l1),some (.ref l2),some (.ref l),some (.str wy),some (.ref f.p),some (.ref z.p),none,none] H3 := by
      refine ⟨_,pss_cons (ps_if (pw_and (pt_cmpR op_eq (pv 3) pe_str (nomark _)) (pw_and1 (pw_or (pt_cmpR op_gt (pe_ix ix_tup (pe_ix ix_tup (pv 4) pe_int (fun _ _ => rfl)) pe_int (fun _ _ => rfl)) pe_int (nomark _)) (pw_or1 (pt_cmpR op_gt (pe_ix ix_tup (pe_ix ix_tup (pv 4) pe_int (fun _ _ => rfl)) pe_int (fun _ _ => rfl)) pe_int (nomark _)))).pt)).pt (pss_one (ps_ret pe_bl)) pss_nil) hp6,fun f z r H3 P3 kk => ?_⟩
      have pf := P3.pr f (by simp)
      have F0 := SqT.of (K := K) pf.p_
      unfold hfB wholeB at kk
      have gt : ∀ {n : Int} {b : Bool},1 ≤ n → decide (n > 1) = b → decide (n = 1) = !b := fun {n b} hn h => by
        cases b with
        | true => exact decide_eq_false (by have := dec_t h; omega)
        | false => exact decide_eq_true (by have := dec_f h; omega)
      refine ⟨_,rfl,rfl,_,rfl,ite3 (fun c1 => ?_) (fun c1 => ?_)⟩
      · rw [if_pos (show wy = wHops from dec_t (ds c1))] at kk
        refine ⟨_,rfl,f.p,_,_,_,rfl,rfl,F0,rfl,f.x,_,_,_,rfl,rfl,SqT.of pf.x_,rfl,_,_,rfl,rfl,_,rfl,ite3 (fun g1 => ?_) (fun g1 => ?_)⟩
        · have y := kk H3 (Same.refl _)
          rw [gt pf.lx.pos g1] at y
          exact y
        refine ⟨_,rfl,f.p,_,_,_,rfl,rfl,F0,rfl,f.y,_,_,_,rfl,rfl,SqT.of pf.y_,rfl,_,_,rfl,rfl,_,rfl,ite3 (fun g2 => ?_) (fun g2 => ?_)⟩
        · have y := kk H3 (Same.refl _)
          rw [gt pf.lx.pos g1,gt pf.ly.pos g2] at y
          exact y
        rw [gt pf.lx.pos g1,gt pf.ly.pos g2] at kk
        exact rd6 f z r H3 P3 kk
      · rw [if_neg (show ¬ wy = wHops from dec_f (ds c1))] at kk
        exact rd6 f z r H3 P3 kk
    obtain ⟨p5,hp5,rd5⟩ := R5
    have R4 : ∃ p4,PSs (cxOf CX0 P w K mg base ["one","other","thing","way","first","last","pair","later"] "_law_is_fence" (defScope (top 52)) f cdv A outer s H E).nox ((defBody (top 52)).drop 4) p4 ∧ ∀ (f z : Pr) (r : List Pr) (H3 : Hp),Same H H3 → PairsAt H3 l (f :: r) → PrAt H3 z → (∀ H',Same H3 H' → Q (.bl (e2B ((xs1.length : Int) - 1) wy z && (hfB wy f && lallB wy (f :: r)))) H') → p4 { nx := fun _ H' => Q .non H',rt := Q } [some (.ref l1),some (.ref l2),some (.ref l),some (.str wy),some (.ref f.p),some (.ref z.p),none,none] H3 := by
      refine ⟨_,pss_cons (ps_if (pw_and (pt_cmpR (op_neI hr.units0) (pe_ix ix_tup (pv 5) pe_int (fun _ _ => rfl)) (pe_tupA (pa_cons pe_int (pa_cons pe_int pa_nil))) (nomark _)) (pw_and1 (pw_or (pt_cmpR op_eq (pv 3) pe_str (nomark _)) (pw_or1 (pt_cmpR (op_neI hr.units0) (pe_ix ix_tup (pv 5) pe_int (fun _ _ => rfl)) (pe_tupA (pa_cons (pe_op op_sub (pe_callB call_len_seq (by rfl) T.z_len bt_len (pa_cons (pv 0) pa_nil)) pe_int) (pa_cons pe_int pa_nil))) (nomark _)))).pt)).pt (pss_one (ps_ret pe_bl)) pss_nil) hp5,fun f z r H3 s3 P3 hz kk => ?_⟩
      unfold e2B at kk
      refine ⟨_,rfl,z.p,_,_,_,rfl,rfl,SqT.of hz.p_,rfl,sz (by simp),fun t1 H4 s4 g4 _ => ?_⟩
      refine ⟨z.y,t1,[z.c,z.d],[0,1],rfl,rfl,SqT.of (s4 _ _ hz.y_),SqT.of g4,_,rfl,?_⟩
      show if (!decide ([z.c,z.d] = [0,1])) = true then _ else _
      rw [two_is]
      refine ite3 (fun c1 => ?_) (fun c1 => ?_)
      · have c1 : isP z.c z.d 0 = false := by simpa using c1
        rw [c1,Bool.false_or] at kk
        refine ⟨_,rfl,rfl,_,rfl,ite3 (fun c2 => ?_) (fun c2 => ?_)⟩
        · have y := kk H4 s4
          rw [show ptB wy = true from ds c2] at y
          exact y
        rw [show ptB wy = false from ds c2] at kk
        have hz4 := hz.t s4.t
        refine ⟨_,rfl,z.p,_,_,_,rfl,rfl,SqT.of hz4.p_,rfl,_,rfl,l1,xs1,rfl,.inl (SqL.of ((s3.trans s4) _ _ e1)),_,_,rfl,rfl,sz (by simp),fun t2 H5 s5 g5 _ => ?_⟩
        refine ⟨z.x,t2,[z.a,z.b],[(xs1.length : Int) - 1,1],rfl,rfl,SqT.of (s5 _ _ hz4.x_),SqT.of g5,_,rfl,?_⟩
        show if (!decide ([z.a,z.b] = [(xs1.length : Int) - 1,1])) = true then _ else _
        rw [two_is]
        have S5 := s4.trans s5
        refine ite3 (fun c3 => ?_) (fun c3 => ?_)
        · have c3 : isP z.a z.b ((xs1.length : Int) - 1) = false := by simpa using c3
          have y := kk H5 S5
          rw [c3] at y
          exact y
        · have c3 : isP z.a z.b ((xs1.length : Int) - 1) = true := by simpa using c3
          rw [c3] at kk
          exact rd5 f z r H5 (P3.mono S5) fun H' s' => kk H' (S5.trans s')
      · have c1 : isP z.c z.d 0 = true := by simpa using c1
        rw [c1] at kk
        exact rd5 f z r H4 (P3.mono s4) fun H' s' => kk H' (s4.trans s')
    obtain ⟨p4,hp4,rd4⟩ := R4
    refine ⟨_,(pss_cons (ps_if (pt_not (pt_val (pe_fn F_law_are_pairs (hr.mono (by decide)) (by rfl) (pa_cons (pv 0) (pa_cons (pv 1) (pa_cons (pv 2) pa_nil)))))) (pss_one (ps_ret pe_bl)) pss_nil) (pss_cons (ps_set (i := 4) S_law_is_fence.nd rfl (Or.inl rfl) (pe_ix ix_list (pv 2) pe_int (fun _ _ => rfl))) (pss_cons (ps_set (i := 5) S_law_is_fence.nd rfl (Or.inl rfl) (pe_ix ix_list (pv 2) (pe_un un_neg pe_int) (fun _ _ => rfl))) (pss_cons (ps_if (pw_and (pt_cmpR (op_neI hr.units0) (pe_ix ix_tup (pv 4) pe_int (fun _ _ => rfl)) (pe_tupA (pa_cons (pe_op op_sub (pe_callB call_len_seq (by rfl) T.z_len bt_len (pa_cons (pv 1) pa_nil)) pe_int) (pa_cons pe_int pa_nil))) (nomark _)) (pw_and1 (pw_or (pt_cmpR op_eq (pv 3) pe_str (nomark _)) (pw_or1 (pt_cmpR (op_neI hr.units0) (pe_ix ix_tup (pv 4) pe_int (fun _ _ => rfl)) (pe_tupA (pa_cons pe_int (pa_cons pe_int pa_nil))) (nomark _)))).pt)).pt (pss_one (ps_ret pe_bl)) pss_nil) hp4)))),?_⟩
    refine ⟨_,rfl,_,rfl,_,rfl,l1,l2,l,xs1,xs2,ps,rfl,⟨e1,n1⟩,⟨e2,n2⟩,PP,fun H0 s0 => ⟨_,rfl,ite3 (fun h0 => ?_) (fun h0 => ?_)⟩⟩
    · have h0 : (!ps.isEmpty && ps.all (inB ((xs1.length : Int) - 1) ((xs2.length : Int) - 1))) = false := by simpa only [Bool.not_eq_true'] using h0
      have y := q H0 s0
      have z : fenceB ((xs1.length : Int) - 1) ((xs2.length : Int) - 1) wy ps = false := by
        cases ps with
        | nil => rfl
        | cons f r =>
          rw [fenceB_cons]
          rw [show (f :: r).all (inB ((xs1.length : Int) - 1) ((xs2.length : Int) - 1)) = false from h0,Bool.false_and]
      rw [z] at y
      exact y
    have h0 : (!ps.isEmpty && ps.all (inB ((xs1.length : Int) - 1) ((xs2.length : Int) - 1))) = true := by simpa only [Bool.not_eq_false'] using h0
    match ps,PP,hlen,q,h0 with
    | [],PP,hlen,q,h0 => cases h0
    | f :: r,PP,hlen,q,h0 =>
    have h0 : (f :: r).all (inB ((xs1.length : Int) - 1) ((xs2.length : Int) - 1)) = true := h0
    rw [fenceB_law,h0,Bool.true_and] at q
    have PP := PP.mono s0
    have hf := PP.pr f (by simp)
    have hl := PP.pr _ (List.getLast_mem (l := f :: r) (by simp))
    refine ⟨_,rfl,l,_,_,_,rfl,rfl,SqL.of PP.lst,at_head (V.ref f.p) (prs r),?_⟩
    refine ⟨_,rfl,_,rfl,l,_,_,_,rfl,rfl,SqL.of PP.lst,at_lastP f r,?_⟩
    generalize (f :: r).getLast (by simp) = z at *
    unfold e1B at q
    refine ⟨_,rfl,f.p,_,_,_,rfl,rfl,SqT.of hf.p_,rfl,_,rfl,l2,xs2,rfl,.inl (SqL.of (s0 _ _ e2)),_,_,rfl,rfl,sz (by simp),fun t1 H1 s1 g1 _ => ?_⟩
    refine ⟨f.y,t1,[f.c,f.d],[(xs2.length : Int) - 1,1],rfl,rfl,SqT.of (s1 _ _ hf.y_),SqT.of g1,_,rfl,?_⟩
    show if (!decide ([f.c,f.d] = [(xs2.length : Int) - 1,1])) = true then _ else _
    rw [two_is]
    have S1 := s0.trans s1
    refine ite3 (fun c1 => ?_) (fun c1 => ?_)
    · have c1 : isP f.c f.d ((xs2.length : Int) - 1) = false := by simpa using c1
      rw [c1,Bool.false_or] at q
      refine ⟨_,rfl,rfl,_,rfl,ite3 (fun c2 => ?_) (fun c2 => ?_)⟩
      · have y := q H1 S1
        rw [show ptB wy = true from ds c2] at y
        exact y
      rw [show ptB wy = false from ds c2] at q
      have hf1 := hf.t s1.t
      refine ⟨_,rfl,f.p,_,_,_,rfl,rfl,SqT.of hf1.p_,rfl,sz (by simp),fun t2 H2 s2 g2 _ => ?_⟩
      refine ⟨f.x,t2,[f.a,f.b],[0,1],rfl,rfl,SqT.of (s2 _ _ hf1.x_),SqT.of g2,_,rfl,?_⟩
      show if (!decide ([f.a,f.b] = [0,1])) = true then _ else _
      rw [two_is]
      have S2 := S1.trans s2
      refine ite3 (fun c3 => ?_) (fun c3 => ?_)
      · have c3 : isP f.a f.b 0 = false := by simpa using c3
        have y := q H2 S2
        rw [c3] at y
        exact y
      · have c3 : isP f.a f.b 0 = true := by simpa using c3
        rw [c3] at q
        exact rd4 f z r H2 S2 (PP.mono (s1.trans s2)) (hl.t (s1.trans s2).t) fun H' s' => q H' (S2.trans s')
    · have c1 : isP f.c f.d ((xs2.length : Int) - 1) = true := by simpa using c1
      rw [c1] at q
      exact rd4 f z r H1 S1 (PP.mono s1) (hl.t s1.t) fun H' s' => q H' (S1.trans s')
theorem sqnn (x : Int) : 0 ≤ x * x := by
  rcases Int.le_total 0 x with h | h
  · exact Int.mul_nonneg h h
  · have := Int.mul_nonneg (show 0 ≤ -x by omega) (show 0 ≤ -x by omega)
    rw [Int.neg_mul_neg] at this
    exact this
theorem lin4 (x y b r : Int) : x * (b - r) + y * r = x * b + (y - x) * r := by grind
theorem sqD_pos {b d : Int} (hb : 0 < b) (hd : 0 < d) : 0 < sqD b d := Int.mul_pos (Int.mul_pos hb hd) (Int.mul_pos hb hd)
theorem sqF_nn (qs : Crn) (t b : Int) (rs : Crn) (t' b' : Int) : 0 ≤ sqF qs t b rs t' b' := by
  unfold sqF sqN
  exact Int.add_nonneg (sqnn _) (sqnn _)
structure MaxSq (qs rs : Crn) (ps : List Pr) (s w : Int) : Prop where
  low : Low s w
  most : ∀ q ∈ ps,sqF qs q.a q.b rs q.c q.d * w ≤ s * sqD q.b q.d
  att : ∃ q ∈ ps,sqF qs q.a q.b rs q.c q.d * w = s * sqD q.b q.d
theorem frac_up {F D s w s' w' : Int} (hD : 0 < D) (hw : 0 < w) (e : F * w = s * D) (h : s * w' ≤ s' * w) : F * w' ≤ s' * D := by
  refine Int.le_of_mul_le_mul_left (a := w) ?_ hw
  have h1 : s * w' * D ≤ s' * w * D := Int.mul_le_mul_of_nonneg_right h (by omega)
  have e1 : w * (F * w') = s * w' * D := by
    have : w * (F * w') = (F * w) * w' := by grind
    rw [this,e]
    grind
  have e2 : w * (s' * D) = s' * w * D := by grind
  rw [e1,e2]
  exact h1
theorem frac_on {F D s w s' w' : Int} (hw : 0 < w) (hw' : 0 < w') (hD : 0 < D) (h : F * w ≤ s * D) (h2 : s * w' ≤ s' * w) : F * w' ≤ s' * D := by
  refine Int.le_of_mul_le_mul_left (a := w) ?_ hw
  have h1 : F * w * w' ≤ s * D * w' := Int.mul_le_mul_of_nonneg_right h (by omega)
  have h3 : s * w' * D ≤ s' * w * D := Int.mul_le_mul_of_nonneg_right h2 (by omega)
  have e1 : w * (F * w') = F * w * w' := by grind
  have e2 : w * (s' * D) = s' * w * D := by grind
  have e3 : s * D * w' = s * w' * D := by grind
  rw [e1,e2]
  rw [e3] at h1
  exact Int.le_trans h1 h3
theorem sm_bits {x : Int} (h : Sm x) : bits x ≤ 50 := by
  have h' : -999999999999 ≤ x ∧ x ≤ 999999999999 := h
  exact bits_of (n := 50) (by show _ < 1125899906842624; omega)
theorem _root_.Sp7.LineM.la {H : Hp} {l : Addr} {qs : Crn} (L : LineM H l qs) : LineAt H l qs := ⟨L.lst,fun q hq => ⟨(L.crn q hq).1,sm_bits (L.crn q hq).2.1,sm_bits (L.crn q hq).2.2⟩⟩
theorem _root_.Wk.PrAt.plx {H : Hp} {q : Pr} {n m : Int} (h : PrAt H q) (hi : inB n m q = true) (hn : n ≤ 100) : Plc H q.x q.a q.b n := by
  unfold inB at hi
  rw [Bool.and_eq_true,decide_eq_true_eq,decide_eq_true_eq] at hi
  have hb : 0 < q.b := h.lx.pos
  refine ⟨h.x_,h.lx,h.nx,hi.1,?_,bits_le h.bb (by decide)⟩
  have h2 : n * q.b ≤ 100 * q.b := Int.mul_le_mul_of_nonneg_right hn (by omega)
  have h3 : bits (100 * q.b) ≤ 7 + 60 := bits_mul (by decide) h.bb
  exact bits_le (bits_range h.nx (by omega) h3) (by decide)
theorem _root_.Wk.PrAt.ply {H : Hp} {q : Pr} {n m : Int} (h : PrAt H q) (hi : inB n m q = true) (hm : m ≤ 100) : Plc H q.y q.c q.d m := by
  unfold inB at hi
  rw [Bool.and_eq_true,decide_eq_true_eq,decide_eq_true_eq] at hi
  have hb : 0 < q.d := h.ly.pos
  refine ⟨h.y_,h.ly,h.ny,hi.2,?_,bits_le h.bd (by decide)⟩
  have h2 : m * q.d ≤ 100 * q.d := Int.mul_le_mul_of_nonneg_right hm (by omega)
  have h3 : bits (100 * q.d) ≤ 7 + 60 := bits_mul (by decide) h.bd
  exact bits_le (bits_range h.ny (by omega) h3) (by decide)
theorem walk_all {n m : Int} {w : Str} {ps : List Pr} (h : walkB n m w ps = true) : ps ≠ [] ∧ ∀ q ∈ ps,inB n m q = true := by
  cases ps with
  | nil => cases h
  | cons f r =>
    rw [walkB_cons,Bool.and_eq_true] at h
    exact ⟨by simp,List.all_eq_true.mp h.1⟩
def spLS15 : Sp := fun vs H Q _ => ∃ (l p l' p' : Addr) (qs qs' : Crn) (t b t' b' : Int),vs = [.ref l,.ref p,.ref l',.ref p'] ∧ LineAt H l qs ∧ LineAt H l' qs' ∧ (1 ≤ qs.length ∧ qs.length ≤ 20) ∧ (1 ≤ qs'.length ∧ qs'.length ≤ 20) ∧ Plc H p t b (lst_ qs) ∧ Plc H p' t' b' (lst_ qs') ∧
  ∀ (r : Addr) (s w : Int) (H' : Hp),Frac (sqF qs t b qs' t' b') (sqD b b') s w → Fr2 H' r s w 1463 → Same H H' → Q (.ref r) H'
def spLWS : Sp := fun vs H Q _ => ∃ (l1 l2 l : Addr) (qs rs : Crn) (ps : List Pr),vs = [.ref l1,.ref l2,.ref l] ∧ (LineAt H l1 qs ∧ 1 ≤ qs.length ∧ qs.length ≤ 20) ∧ (LineAt H l2 rs ∧ 1 ≤ rs.length ∧ rs.length ≤ 20) ∧ PairsAt H l ps ∧ (ps ≠ [] ∧ ∀ q ∈ ps,inB (lst_ qs) (lst_ rs) q = true) ∧
  ∀ (r : Addr) (s w : Int) (H' : Hp),Fr2 H' r s w 1463 → MaxSq qs rs ps s w → Same H H' → Q (.ref r) H'
theorem S_law_point_at : FnScope ["line","place","at","rest","x","y"] ["line","place"] (defScope (top 53)) := ⟨rfl,rfl,rfl,by decide +kernel,rfl,by decide +kernel,by decide +kernel⟩
theorem fn_law_point_at (D_law_point_at : Df K mg "_law_point_at" (top 53)) : Fn P w K mg base "_law_point_at" ["line","place"] 1 spLPt := by
  refine D_law_point_at.fn S_law_point_at (fun _ _ _ _ _ _ us hl => by obtain ⟨_,_,rfl⟩ := len2 hl; rfl) (fun vs H Q E h => ?_) (fun f cdv A outer s H vs Q E hr h => ?_)
  · obtain ⟨l,p,qs,t,b,rfl,_⟩ := h
    rfl
  · obtain ⟨l,p,qs,t,b,rfl,L,h1,pl,k⟩ := h
    refine ⟨_,(pss_cons (ps_set (i := 2) S_law_point_at.nd rfl (Or.inl rfl) (pe_op op_fdivP (pe_ix ix_tup (pv 1) pe_int (fun _ _ => rfl)) (pe_ix ix_tup (pv 1) pe_int (fun _ _ => rfl)))) (pss_cons (ps_set (i := 3) S_law_point_at.nd rfl (Or.inl rfl) (pe_op op_mod (pe_ix ix_tup (pv 1) pe_int (fun _ _ => rfl)) (pe_ix ix_tup (pv 1) pe_int (fun _ _ => rfl)))) (pss_cons (ps_if (pt_cmpR op_eq (pv 3) pe_int (nomark _)) (pss_one (ps_ret (pe_tupA (pa_cons (pe_ix ix_tup (pe_ix ix_list (pv 0) (pv 2) (fun _ _ => rfl)) pe_int (fun _ _ => rfl)) (pa_cons (pe_ix ix_tup (pe_ix ix_list (pv 0) (pv 2) (fun _ _ => rfl)) pe_int (fun _ _ => rfl)) (pa_cons pe_int pa_nil)))))) pss_nil) (pss_cons (ps_set (i := 4) S_law_point_at.nd rfl (Or.inl rfl) (pe_op op_add (pe_op op_mulX (pe_ix ix_tup (pe_ix ix_list (pv 0) (pv 2) (fun _ _ => rfl)) pe_int (fun _ _ => rfl)) (pe_op op_sub (pe_ix ix_tup (pv 1) pe_int (fun _ _ => rfl)) (pv 3))) (pe_op op_mulX (pe_ix ix_tup (pe_ix ix_list (pv 0) (pe_op op_add (pv 2) pe_int) (fun _ _ => rfl)) pe_int (fun _ _ => rfl)) (pv 3)))) (pss_cons (ps_set (i := 5) S_law_point_at.nd rfl (Or.inl rfl) (pe_op op_add (pe_op op_mulX (pe_ix ix_tup (pe_ix ix_list (pv 0) (pv 2) (fun _ _ => rfl)) pe_int (fun _ _ => rfl)) (pe_op op_sub (pe_ix ix_tup (pv 1) pe_int (fun _ _ => rfl)) (pv 3))) (pe_op op_mulX (pe_ix ix_tup (pe_ix ix_list (pv 0) (pe_op op_add (pv 2) pe_int) (fun _ _ => rfl)) pe_int (fun _ _ => rfl)) (pv 3)))) (pss_one (ps_ret (pe_tupA (pa_cons (pv 4) (pa_cons (pv 5) (pa_cons (pe_ix ix_tup (pv 1) pe_int (fun _ _ => rfl)) pa_nil))))))))))),?_⟩
    have hb : (0 : Int) < b := pl.low.pos
    have e := pl.at_
    have hll : (qs.map fun (q : Addr × Int × Int) => V.ref q.1).length = qs.length := List.length_map _
    have q0 : 0 ≤ t / b := fl_nn hb pl.lo
    have qn : t / b ≤ (qs.length : Int) - 1 := Int.ediv_le_of_le_mul hb pl.hi
    have m0 := Int.emod_nonneg t (show b ≠ 0 by omega)
    have m1 := Int.emod_lt_of_pos t hb
    have em := Int.emod_add_mul_ediv t b
    have atq : ∀ (j : Nat) (k : Int),k = (j : Int) → j < qs.length → atI (qs.map fun (q : Addr × Int × Int) => V.ref q.1) k = some (.ref (qs.getD j (0,0,0)).1) ∧ qs.getD j (0,0,0) ∈ qs := fun j k ek hj => by
      have e1 : qs.getD j (0,0,0) = qs[j] := by rw [List.getD_eq_getElem?_getD,List.getElem?_eq_getElem hj]; rfl
      rw [e1]
      subst ek
      exact ⟨atI_nat (by rw [List.getElem?_map,List.getElem?_eq_getElem hj]; rfl),List.getElem_mem hj⟩
    obtain ⟨a0,mm0⟩ := atq (t / b).toNat (t / b) (by omega) (by omega)
    have c0 := L.crn _ mm0
    refine ⟨_,rfl,p,_,_,_,rfl,rfl,SqT.of e,rfl,_,rfl,p,_,_,_,rfl,rfl,SqT.of e,rfl,_,_,rfl,rfl,⟨hb,bits_le pl.bb (by decide)⟩,?_⟩
    refine ⟨_,rfl,p,_,_,_,rfl,rfl,SqT.of e,rfl,_,rfl,p,_,_,_,rfl,rfl,SqT.of e,rfl,_,_,rfl,rfl,hb,?_⟩
    refine ⟨_,rfl,rfl,_,rfl,ite3 (fun c => ?_) (fun c => ?_)⟩
    · have hr : t % b = 0 := by
        have := dec_t c
        injection this
      have hb1 : b = 1 := by
        have d : (b.natAbs) ∣ (Int.gcd t b) := Int.dvd_gcd (Int.natAbs_dvd.mpr (Int.dvd_of_emod_eq_zero hr)) (Int.natAbs_dvd.mpr (Int.dvd_refl b))
        rw [pl.low.one] at d
        have := Nat.le_of_dvd (by decide) d
        omega
      subst hb1
      refine ⟨_,rfl,_,rfl,l,_,_,_,rfl,rfl,SqL.of L.lst,a0,_,_,_,_,rfl,rfl,SqT.of c0.1,rfl,_,rfl,_,rfl,l,_,_,_,rfl,rfl,SqL.of L.lst,a0,_,_,_,_,rfl,rfl,SqT.of c0.1,rfl,sz (by simp),fun r H1 s1 f1 n1 => k r H1 ?_ s1⟩
      rw [f1]
      unfold ptX ptY Sp3.numAt side0
      rw [hr]
      simp
    · have hr : ¬ t % b = 0 := fun z => by
        have c' : decide (V.int (t % b) = V.int 0) = false := c
        rw [z] at c'
        exact absurd c' (by decide)
      have hlt : t / b < (qs.length : Int) - 1 := by
        rcases Int.lt_or_eq_of_le qn with h | h
        · exact h
        · exfalso
          have := pl.hi
          unfold lst_ at this
          rw [h,Int.mul_comm] at em
          omega
      obtain ⟨a1,mm1⟩ := atq ((t / b).toNat + 1) (t / b + 1) (by omega) (by omega)
      have c1 := L.crn _ mm1
      have em1 : min ((t / b).toNat + 1) (qs.length - 1) = (t / b).toNat + 1 := by omega
      have bm : bits (t % b) ≤ 120 := bits_emod hb pl.bb
      have bd : bits (b - t % b) ≤ 121 := bits_sub pl.bb bm
      refine ⟨_,rfl,_,rfl,l,_,_,_,rfl,rfl,SqL.of L.lst,a0,_,_,_,_,rfl,rfl,SqT.of c0.1,rfl,_,rfl,p,_,_,_,rfl,rfl,SqT.of e,rfl,_,rfl,_,_,rfl,rfl,_,_,rfl,rfl,CM.b c0.2.1 bd (by decide) (by decide),_,rfl,_,rfl,_,_,rfl,rfl,l,_,_,_,rfl,rfl,SqL.of L.lst,a1,_,_,_,_,rfl,rfl,SqT.of c1.1,rfl,_,rfl,_,_,rfl,rfl,CM.b c1.2.1 bm (by decide) (by decide),_,_,rfl,rfl,?_⟩
      refine ⟨_,rfl,_,rfl,l,_,_,_,rfl,rfl,SqL.of L.lst,a0,_,_,_,_,rfl,rfl,SqT.of c0.1,rfl,_,rfl,p,_,_,_,rfl,rfl,SqT.of e,rfl,_,rfl,_,_,rfl,rfl,_,_,rfl,rfl,CM.b c0.2.2 bd (by decide) (by decide),_,rfl,_,rfl,_,_,rfl,rfl,l,_,_,_,rfl,rfl,SqL.of L.lst,a1,_,_,_,_,rfl,rfl,SqT.of c1.1,rfl,_,rfl,_,_,rfl,rfl,CM.b c1.2.2 bm (by decide) (by decide),_,_,rfl,rfl,?_⟩
      refine ⟨_,rfl,_,rfl,_,rfl,p,_,_,_,rfl,rfl,SqT.of e,rfl,sz (by simp),fun r H1 s1 f1 n1 => k r H1 ?_ s1⟩
      have eX : (qs.getD (t / b).toNat (0,0,0)).2.1 * (b - t % b) + (qs.getD ((t / b).toNat + 1) (0,0,0)).2.1 * (t % b) = ptX qs t b := by
        unfold ptX Sp3.numAt side0 side1
        rw [em1]
        exact lin4 _ _ _ _
      have eY : (qs.getD (t / b).toNat (0,0,0)).2.2 * (b - t % b) + (qs.getD ((t / b).toNat + 1) (0,0,0)).2.2 * (t % b) = ptY qs t b := by
        unfold ptY Sp3.numAt side0 side1
        rw [em1]
        exact lin4 _ _ _ _
      rw [← eX,← eY]
      exact f1
theorem S_law_square_of : FnScope ["one","x","other","y","a","b","c","d","e","f"] ["one","x","other","y"] (defScope (top 54)) := ⟨rfl,rfl,rfl,by decide +kernel,rfl,by decide +kernel,by decide +kernel⟩
theorem fn_law_square_of (D_law_square_of : Df K mg "_law_square_of" (top 54)) (F_law_point_at : Fn P w K mg base "_law_point_at" ["line","place"] 1 spLPt) (F_law_ratio : Fn P w K mg base "_law_ratio" ["top","bottom"] 2 spLRat) : Fn P w K mg base "_law_square_of" ["one","x","other","y"] 3 spLS15 := by
  refine D_law_square_of.fn S_law_square_of (fun _ _ _ _ _ _ us hl => by obtain ⟨_,_,_,_,rfl⟩ := len4 hl; rfl) (fun vs H Q E h => ?_) (fun f cdv A outer s H vs Q E hr h => ?_)
  · obtain ⟨l,p,l',p',qs,qs',t,b,t',b',rfl,_⟩ := h
    rfl
  · obtain ⟨l,p,l',p',qs,qs',t,b,t',b',rfl,L,L',h1,h1',pl,pl',k⟩ := h
    refine ⟨_,(pss_cons (ps_asg (pe_fn F_law_point_at (hr.mono (by decide)) (by rfl) (pa_cons (pv 0) (pa_cons (pv 1) pa_nil))) (pg_tup rfl (pgs_cons (pg_name (i := 4) S_law_square_of.nd rfl (Or.inl rfl)) (pgs_cons (pg_name (i := 5) S_law_square_of.nd rfl (Or.inl rfl)) (pgs_cons (pg_name (i := 6) S_law_square_of.nd rfl (Or.inl rfl)) pgs_nil))))) (pss_cons (ps_asg (pe_fn F_law_point_at (hr.mono (by decide)) (by rfl) (pa_cons (pv 2) (pa_cons (pv 3) pa_nil))) (pg_tup rfl (pgs_cons (pg_name (i := 7) S_law_square_of.nd rfl (Or.inl rfl)) (pgs_cons (pg_name (i := 8) S_law_square_of.nd rfl (Or.inl rfl)) (pgs_cons (pg_name (i := 9) S_law_square_of.nd rfl (Or.inl rfl)) pgs_nil))))) (pss_one (ps_ret (pe_fn F_law_ratio (hr.mono (by decide)) (by rfl) (pa_cons (pe_op op_add (pe_op op_powX (pe_op op_sub (pe_op op_mulX (pv 4) (pv 9)) (pe_op op_mulX (pv 7) (pv 6))) pe_int) (pe_op op_powX (pe_op op_sub (pe_op op_mulX (pv 5) (pv 9)) (pe_op op_mulX (pv 8) (pv 6))) pe_int)) (pa_cons (pe_op op_mulX (pe_op op_mulX (pe_op op_mulX (pv 6) (pv 6)) (pv 9)) (pv 9)) pa_nil))))))),?_⟩
    have hb : (0 : Int) < b := pl.low.pos
    have hb' : (0 : Int) < b' := pl'.low.pos
    have B := pt_bits (t := t) L hb pl.bb
    have B' := pt_bits (t := t') L' hb' pl'.bb
    have cm : ∀ {u v : Int},bits u ≤ 182 → bits v ≤ 182 → CM u v := fun hu hv => CM.b hu hv (by decide) (by decide)
    have w120 : ∀ {u : Int},bits u ≤ 120 → bits u ≤ 182 := fun h => bits_le h (by decide)
    refine ⟨_,rfl,_,rfl,l,p,qs,t,b,rfl,L,h1,pl,fun ra H1 fa s1 => ?_⟩
    refine ⟨ra,_,rfl,SqT.of fa,rfl,_,_,rfl,_,_,rfl,_,_,rfl,rfl,?_⟩
    refine ⟨_,rfl,_,rfl,l',p',qs',t',b',rfl,L'.mono s1,h1',pl'.mono s1,fun rb H2 fb s2 => ?_⟩
    refine ⟨rb,_,rfl,SqT.of fb,rfl,_,_,rfl,_,_,rfl,_,_,rfl,rfl,?_⟩
    have bw : bits (ptX qs t b * b' - ptX qs' t' b' * b) ≤ 365 := bits_sub (bits_mul B.1 (w120 pl'.bb)) (bits_mul B'.1 (w120 pl.bb))
    have bh : bits (ptY qs t b * b' - ptY qs' t' b' * b) ≤ 365 := bits_sub (bits_mul B.2 (w120 pl'.bb)) (bits_mul B'.2 (w120 pl.bb))
    refine ⟨_,rfl,_,rfl,_,_,rfl,rfl,cm B.1 (w120 pl'.bb),_,rfl,_,rfl,_,_,rfl,rfl,cm B'.1 (w120 pl.bb),_,_,rfl,rfl,_,_,rfl,rfl,cpx2 bw (by decide),?_⟩
    refine ⟨_,rfl,_,rfl,_,_,rfl,rfl,cm B.2 (w120 pl'.bb),_,rfl,_,rfl,_,_,rfl,rfl,cm B'.2 (w120 pl.bb),_,_,rfl,rfl,_,_,rfl,rfl,cpx2 bh (by decide),_,_,rfl,rfl,?_⟩
    have b2 : bits (b * b) ≤ 240 := bits_mul pl.bb pl.bb
    have b3 : bits (b * b * b') ≤ 360 := bits_mul b2 pl'.bb
    have b4 : bits (b * b * b' * b') ≤ 480 := bits_mul b3 pl'.bb
    refine ⟨_,rfl,_,rfl,_,_,rfl,rfl,CM.b pl.bb pl.bb (by decide) (by decide),_,rfl,_,_,rfl,rfl,CM.b b2 pl'.bb (by decide) (by decide),_,rfl,_,_,rfl,rfl,CM.b b3 pl'.bb (by decide) (by decide),?_⟩
    have eN : (ptX qs t b * b' - ptX qs' t' b' * b) ^ (2 : Int).toNat + (ptY qs t b * b' - ptY qs' t' b' * b) ^ (2 : Int).toNat = sqF qs t b qs' t' b' := by
      show (ptX qs t b * b' - ptX qs' t' b' * b) ^ 2 + (ptY qs t b * b' - ptY qs' t' b' * b) ^ 2 = _
      unfold sqF sqN
      generalize ptX qs t b = X
      generalize ptX qs' t' b' = X'
      generalize ptY qs t b = Y
      generalize ptY qs' t' b' = Y'
      grind
    have eD : b * b * b' * b' = sqD b b' := by unfold sqD; grind
    have bN : bits (sqF qs t b qs' t' b') ≤ 731 := by
      rw [← eN]
      show bits ((ptX qs t b * b' - ptX qs' t' b' * b) ^ 2 + (ptY qs t b * b' - ptY qs' t' b' * b) ^ 2) ≤ 731
      rw [Int.pow_succ,Int.pow_succ,Int.pow_zero,Int.one_mul,Int.pow_succ,Int.pow_succ,Int.pow_zero,Int.one_mul]
      exact bits_add (bits_mul bw bw) (bits_mul bh bh)
    rw [eD] at b4
    have hD := sqD_pos hb hb'
    refine ⟨sqF qs t b qs' t' b',sqD b b',by rw [← eN,← eD]; rfl,⟨hD,bits_le b4 (by decide)⟩,fun r s' w' H3 fr es ew s3 f3 n3 => k r s' w' H3 fr ⟨f3,fr.low,?_,?_⟩ (s1.trans (s2.trans s3))⟩
    · rw [es]
      exact bits_le (bits_ediv (gcd_pos (by omega)) bN) (by decide)
    · rw [ew]
      exact bits_le (bits_ediv (gcd_pos (by omega)) b4) (by decide)
theorem S_law_walk_square : FnScope ["one","other","walk","most","x","y","here"] ["one","other","walk"] (defScope (top 57)) := ⟨rfl,rfl,rfl,by decide +kernel,rfl,by decide +kernel,by decide +kernel⟩
theorem fn_law_walk_square (D_law_walk_square : Df K mg "_law_walk_square" (top 57)) (F_law_square_of : Fn P w K mg base "_law_square_of" ["one","x","other","y"] 3 spLS15) (F_law_below : Fn P w K mg base "_law_below" ["one","other"] 1 spLess) : Fn P w K mg base "_law_walk_square" ["one","other","walk"] 4 spLWS := by
  refine D_law_walk_square.fn S_law_walk_square (fun _ _ _ _ _ _ us hl => by obtain ⟨_,_,_,rfl⟩ := len3 hl; rfl) (fun vs H Q E h => ?_) (fun f cdv A outer s H vs Q E hr h => ?_)
  · obtain ⟨l1,l2,l,qs,rs,ps,rfl,_⟩ := h
    rfl
  · obtain ⟨l1,l2,l,qs,rs,ps,rfl,⟨L1,h1,h20⟩,⟨L2,g1,g20⟩,PP,⟨hne,hin⟩,k⟩ := h
    refine ⟨_,(pss_cons (ps_set (i := 3) S_law_walk_square.nd rfl (Or.inl rfl) (pe_tupA (pa_cons pe_int (pa_cons pe_int pa_nil)))) (pss_cons (ps_for PassesOwn.never rfl (pi_list (pv 2)) (pg_tup rfl (pgs_cons (pg_name (i := 4) S_law_walk_square.nd rfl (Or.inl rfl)) (pgs_cons (pg_name (i := 5) S_law_walk_square.nd rfl (Or.inl rfl)) pgs_nil))) (pss_cons (ps_set (i := 6) S_law_walk_square.nd rfl (Or.inl rfl) (pe_fn F_law_square_of (hr.mono (by decide)) (by rfl) (pa_cons (pv 0) (pa_cons (pv 4) (pa_cons (pv 1) (pa_cons (pv 5) pa_nil)))))) (pss_one (ps_if (pt_val (pe_fn F_law_below (hr.mono (by decide)) (by rfl) (pa_cons (pv 3) (pa_cons (pv 6) pa_nil)))) (pss_one (ps_set (i := 3) S_law_walk_square.nd rfl (Or.inl rfl) (pv 6))) pss_nil)))) (pss_one (ps_ret (pv 3))))),?_⟩
    refine ⟨sz (by simp),fun p0 H1 s1 f1 n1 => ?_⟩
    have P1 := PP.mono s1
    refine ⟨_,rfl,l,rfl,⟨_,SqL.of P1.lst⟩,for_list (K := K) (a := l) (xs := prs ps) (fun i σ H2 => ∃ (z1 z2 z3 : Option V) (r : Addr) (s w : Int),σ = [some (.ref l1),some (.ref l2),some (.ref l),some (.ref r),z1,z2,z3] ∧ Fr2 H2 r s w 1463 ∧ (∀ (j : Nat) u,j < i → ps[j]? = some u → sqF qs u.a u.b rs u.c u.d * w ≤ s * sqD u.b u.d) ∧ ((s = 0 ∧ w = 1) ∨ ∃ u ∈ ps,sqF qs u.a u.b rs u.c u.d * w = s * sqD u.b u.d) ∧ 0 ≤ s ∧ Same H1 H2)
      ⟨_,_,_,p0,0,1,rfl,⟨f1,⟨by decide,by decide⟩,by decide,by decide⟩,fun j u h => absurd h (by omega),.inl ⟨rfl,rfl⟩,by decide,Same.refl _⟩ (fun i σ H2 _ ⟨_,_,_,_,_,_,_,_,_,_,_,s2⟩ => SqL.of (s2 _ _ P1.lst)) ?_ ?_⟩
    · rintro i x σ H2 hx ⟨z1,z2,z3,r,s',w',rfl,fr,hle,hat,hs0,s2⟩
      obtain ⟨q,hq,rfl⟩ := prs_get hx
      have mq := List.mem_of_getElem? hq
      have pq := (P1.mono s2).pr q mq
      have hi := hin q mq
      have plx := pq.plx hi (show lst_ qs ≤ 100 by unfold lst_; omega)
      have ply := pq.ply hi (show lst_ rs ≤ 100 by unfold lst_; omega)
      refine ⟨q.p,_,rfl,SqT.of pq.p_,rfl,_,_,rfl,_,_,rfl,rfl,?_⟩
      refine ⟨_,rfl,_,rfl,_,rfl,_,rfl,l1,q.x,l2,q.y,qs,rs,_,_,_,_,rfl,(L1.mono s1).mono s2,(L2.mono s1).mono s2,⟨h1,h20⟩,⟨g1,g20⟩,plx,ply,fun r3 s3 w3 H3 fr3 f3 sm3 => ?_⟩
      have fr' := fr.mono sm3
      have pD := sqD_pos pq.lx.pos pq.ly.pos
      refine ⟨_,rfl,_,rfl,r,r3,s',w',s3,w3,rfl,fr'.at_,f3.at_,⟨bits_le fr'.ba (by decide),bits_le fr'.bb (by decide),bits_le f3.ba (by decide),bits_le f3.bb (by decide)⟩,_,rfl,ite3 (fun c => ?_) (fun c => ?_)⟩
      · have c : s' * w3 < s3 * w' := dec_t c
        have hw' : 0 < w' := fr'.low.pos
        have hw3 : 0 < w3 := f3.low.pos
        refine ⟨_,rfl,_,_,_,r3,s3,w3,rfl,f3,fun j u hj hu => ?_,.inr ⟨q,mq,fr3.eq⟩,?_,s2.trans sm3⟩
        · by_cases hji : j = i
          · subst hji
            rw [hq] at hu
            cases hu
            exact Int.le_of_eq fr3.eq
          · have pu := PP.pr u (List.mem_of_getElem? hu)
            exact frac_on hw' hw3 (sqD_pos pu.lx.pos pu.ly.pos) (hle j u (by omega) hu) (Int.le_of_lt c)
        · have h0 : 0 ≤ s' * w3 := Int.mul_nonneg hs0 (by omega)
          rcases Int.lt_or_le s3 0 with h | h
          · exfalso
            have := Int.mul_nonneg (show 0 ≤ -s3 by omega) (show 0 ≤ w' by omega)
            rw [Int.neg_mul] at this
            omega
          · exact h
      · have c : ¬ s' * w3 < s3 * w' := dec_f c
        refine ⟨_,_,_,r,s',w',rfl,fr',fun j u hj hu => ?_,hat,hs0,s2.trans sm3⟩
        by_cases hji : j = i
        · subst hji
          rw [hq] at hu
          cases hu
          exact frac_up pD f3.low.pos fr3.eq (by omega)
        · exact hle j u (by omega) hu
    · rintro σ H2 ⟨z1,z2,z3,r,s',w',rfl,fr,hle,hat,hs0,s2⟩
      have hall : ∀ u ∈ ps,sqF qs u.a u.b rs u.c u.d * w' ≤ s' * sqD u.b u.d := fun u hu => by
        obtain ⟨j,hj,e⟩ := List.getElem_of_mem hu
        exact hle j u (by rw [prs_len]; exact hj) (by rw [List.getElem?_eq_getElem hj,e])
      refine ⟨_,rfl,k r s' w' H2 fr ⟨fr.low,hall,?_⟩ (s1.trans s2)⟩
      rcases hat with ⟨rfl,rfl⟩ | h
      · obtain ⟨u,hu⟩ := List.exists_mem_of_ne_nil ps hne
        refine ⟨u,hu,?_⟩
        have := hall u hu
        have h0 := sqF_nn qs u.a u.b rs u.c u.d
        omega
      · exact h
theorem num1 (x y t : Int) : Sp3.numAt x y t 1 = x := by unfold Sp3.numAt; rw [Int.emod_one]; omega
theorem sq_whole {qs rs : Crn} {i j : Int} {u v : Addr × Int × Int} (hu : qs[i.toNat]? = some u) (hv : rs[j.toNat]? = some v) : sqF qs i 1 rs j 1 = (v.2.1 - u.2.1) * (v.2.1 - u.2.1) + (v.2.2 - u.2.2) * (v.2.2 - u.2.2) := by
  unfold sqF sqN ptX ptY side0
  rw [num1,num1,num1,num1,Int.ediv_one,Int.ediv_one,List.getD_eq_getElem?_getD,List.getD_eq_getElem?_getD,hu,hv]
  simp only [Int.mul_one,Option.getD_some]
theorem farB_whole {qs rs : Crn} {a b : Int} {c : Int × Int} (h1 : 0 ≤ c.1 ∧ c.1 ≤ (lastN qs : Nat)) (h2 : 0 ≤ c.2 ∧ c.2 ≤ (lastN rs : Nat)) (g1 : 1 ≤ qs.length) (g2 : 1 ≤ rs.length) : (farB qs rs a b 0 c.1 c.2 = true ↔ a < sqF qs c.1 1 rs c.2 1 * b) := by
  unfold lastN at h1 h2
  obtain ⟨u,hu⟩ : ∃ u,qs[c.1.toNat]? = some u := ⟨qs[c.1.toNat]'(by omega),List.getElem?_eq_getElem (by omega)⟩
  obtain ⟨v,hv⟩ : ∃ v,rs[c.2.toNat]? = some v := ⟨rs[c.2.toNat]'(by omega),List.getElem?_eq_getElem (by omega)⟩
  have := farB_at (a := a) (b := b) (room := 0) hu hv
  rw [show ((c.1.toNat : Nat) : Int) = c.1 by omega,show ((c.2.toNat : Nat) : Int) = c.2 by omega] at this
  rw [this,sq_whole hu hv,decide_eq_true_eq,lo_neg]
theorem hop_near {m n : Nat} {F : Int → Int → Bool} {ps : List Pr} (h : HopW m n F ps) : ∀ q ∈ ps,0 ≤ q.a ∧ q.a ≤ m ∧ 0 ≤ q.c ∧ q.c ≤ n ∧ q.b = 1 ∧ q.d = 1 ∧ F q.a q.c = false := by
  obtain ⟨h0,⟨cs,pc,⟨r,hr⟩,hl,hb,_,hs⟩,_⟩ := h
  intro q hq
  obtain ⟨k,hk⟩ := List.getElem?_of_mem hq
  obtain ⟨c,hc,e1,e2,e3,e4⟩ := paired_get' pc k q hk
  have bc := hb c (List.mem_of_getElem? hc)
  rw [e1,e3]
  refine ⟨bc.1,bc.2.1,bc.2.2.1,bc.2.2.2,e2,e4,?_⟩
  cases k with
  | zero =>
    rw [hr] at hc
    have : (0,0) = c := by simpa using hc
    rw [← this]
    exact h0
  | succ k =>
    have lt := (List.getElem?_eq_some_iff.mp hc).1
    obtain ⟨a,ha⟩ : ∃ a,cs[k]? = some a := ⟨cs[k]'(by omega),by rw [List.getElem?_eq_getElem (by omega)]⟩
    have st := hs k a c ha hc
    unfold hopsOn at st
    rw [List.mem_filter] at st
    obtain ⟨_,g2⟩ := st
    simp only [Bool.and_eq_true,decide_eq_true_iff,Bool.not_eq_true',decide_eq_false_iff_not] at g2
    cases e : F c.1 c.2 with
    | false => rfl
    | true => exact absurd (mem_farL.mpr ⟨bc.1,bc.2.1,bc.2.2.1,bc.2.2.2,e⟩) g2.2.2
theorem hop_far {m n : Nat} {F : Int → Int → Bool} {ps : List Pr} (h : HopF m n F ps) : ∀ q ∈ ps,0 ≤ q.a ∧ q.a ≤ m ∧ 0 ≤ q.c ∧ q.c ≤ n ∧ q.b = 1 ∧ q.d = 1 ∧ F q.a q.c = true := by
  obtain ⟨_,⟨cs,pc,_,_,hf,_,_⟩,_⟩ := h
  intro q hq
  obtain ⟨k,hk⟩ := List.getElem?_of_mem hq
  obtain ⟨c,hc,e1,e2,e3,e4⟩ := paired_get' pc k q hk
  obtain ⟨g1,g2,g3,g4,g5⟩ := mem_farL.mp (hf c (List.mem_of_getElem? hc))
  rw [e1,e3]
  exact ⟨g1,g2,g3,g4,e2,e4,g5⟩
theorem in_of {m n : Nat} {q : Pr} (h1 : q.a ≤ m) (h2 : q.c ≤ n) (h3 : q.b = 1) (h4 : q.d = 1) : inB (m : Int) (n : Int) q = true := by
  unfold inB
  rw [h3,h4,Int.mul_one,Int.mul_one,decide_eq_true h1,decide_eq_true h2]
  rfl
theorem get_pc {cs : List (Int × Int)} {ps : List Pr} (pc : Paired (fun c q => prC q c) cs ps) {i : Nat} {c : Int × Int} (h : cs[i]? = some c) : ∃ q,ps[i]? = some q ∧ prC q c := paired_get pc i c h
theorem last_pc {cs : List (Int × Int)} {ps : List Pr} (pc : Paired (fun c q => prC q c) cs ps) {c : Int × Int} (h : cs.getLast? = some c) : ∃ q,ps.getLast? = some q ∧ prC q c := by
  rw [List.getLast?_eq_getElem?,Paired.length pc] at h
  rw [List.getLast?_eq_getElem?]
  exact get_pc pc h
theorem head_pc {cs : List (Int × Int)} {ps : List Pr} (pc : Paired (fun c q => prC q c) cs ps) {c : Int × Int} {r : List (Int × Int)} (h : cs = c :: r) : ∃ q,ps.head? = some q ∧ prC q c := by
  rw [List.head?_eq_getElem?]
  exact get_pc pc (by rw [h]; rfl)
theorem is1 {q t n : Int} (h1 : q = n) (h2 : t = 1) : isP q t n = true := by unfold isP; rw [h1,h2]; simp
theorem hop_walk {m n : Nat} {F : Int → Int → Bool} {ps : List Pr} (h : HopW m n F ps) : walkB (m : Int) (n : Int) wHops ps = true := by
  have nr := hop_near h
  obtain ⟨h0,⟨cs,pc,⟨r,hr⟩,hl,hb,_,hs⟩,_⟩ := h
  obtain ⟨f,hf,f1,f2,f3,f4⟩ := head_pc pc hr
  obtain ⟨l,hl',l1,l2,l3,l4⟩ := last_pc pc hl
  refine walkB_of.mpr ⟨f,l,hf,hl',List.all_eq_true.mpr fun q hq => ?_,?_,steps_iff.mpr fun j u v hu hv => ?_⟩
  · obtain ⟨_,g1,_,g2,g3,g4,_⟩ := nr q hq
    exact in_of g1 g2 g3 g4
  · unfold endsB
    rw [is1 f1 f2,is1 l1 l2,is1 f3 f4,is1 l3 l4]
    rfl
  · obtain ⟨c,hc,u1,u2,u3,u4⟩ := paired_get' pc j u hu
    obtain ⟨d,hd,v1,v2,v3,v4⟩ := paired_get' pc (j + 1) v hv
    have st := hs j c d hc hd
    unfold hopsOn at st
    have g1 := (List.mem_filter.mp st).1
    unfold stepB goB
    rw [if_pos rfl,if_pos rfl,u1,u2,u3,u4,v1,v2,v3,v4]
    simp only [List.mem_cons,List.not_mem_nil,or_false] at g1
    rcases g1 with rfl | rfl | rfl
    · simp; omega
    · simp; omega
    · simp; omega
theorem hop_fence {m n : Nat} {F : Int → Int → Bool} {ps : List Pr} (h : HopF m n F ps) : fenceB (m : Int) (n : Int) wHops ps = true := by
  have nr := hop_far h
  obtain ⟨_,⟨cs,pc,⟨c0,r,hr,hc0⟩,⟨c1,hc1,hl⟩,hf,_,hs⟩,_⟩ := h
  obtain ⟨f,ef,f1,f2,f3,f4⟩ := head_pc pc hr
  obtain ⟨l,el,l1,l2,l3,l4⟩ := last_pc pc hc1
  refine fenceB_of.mpr ⟨f,l,ef,el,List.all_eq_true.mpr fun q hq => ?_,?_,?_,fsteps_iff.mpr fun j u v hu hv => ?_⟩
  · obtain ⟨_,g1,_,g2,g3,g4,_⟩ := nr q hq
    exact in_of g1 g2 g3 g4
  · rw [if_pos rfl]
    refine List.all_eq_true.mpr fun q hq => ?_
    obtain ⟨_,_,_,_,g3,g4,_⟩ := nr q hq
    unfold wholeB
    rw [g3,g4]
    rfl
  · unfold fendsB
    rw [if_neg (by decide +kernel),Bool.and_eq_true,Bool.or_eq_true,Bool.or_eq_true]
    refine ⟨?_,?_⟩
    · rcases hc0 with z | z
      · exact .inl (is1 (f3.trans z) f4)
      · exact .inr (is1 (f1.trans z) f2)
    · rcases hl with z | z
      · exact .inl (is1 (l3.trans z) l4)
      · exact .inr (is1 (l1.trans z) l2)
  · obtain ⟨c,hc,u1,u2,u3,u4⟩ := paired_get' pc j u hu
    obtain ⟨d,hd,v1,v2,v3,v4⟩ := paired_get' pc (j + 1) v hv
    have st := hs j c d hc hd
    unfold mayB
    rw [if_pos rfl]
    unfold asideB
    rw [u1,u3,v1,v3]
    exact st
structure Told (H : Hp) (t r : Addr) (qs1 qs2 : Crn) (a b : Int) (ps : List Pr) : Prop where
  pp : PairsAt H r ps
  alt : (H t = some (.tup [.str "walk",.ref r]) ∧ HopW (lastN qs1) (lastN qs2) (farB qs1 qs2 a b 0) ps) ∨ (H t = some (.tup [.str "fence",.ref r]) ∧ HopF (lastN qs1) (lastN qs2) (farB qs1 qs2 a b 0) ps)
def spShown : Sp := fun vs H Q _ => ∃ (l1 l2 t r z : Addr) (qs1 qs2 : Crn) (a b : Int) (ps : List Pr),vs = [.ref l1,.ref l2,.ref t,.ref z] ∧ LineM H l1 qs1 ∧ LineM H l2 qs2 ∧ (1 ≤ qs1.length ∧ qs1.length ≤ 10) ∧ (1 ≤ qs2.length ∧ qs2.length ≤ 10) ∧ Sq H z a b ∧ Low a b ∧ Told H t r qs1 qs2 a b ps ∧ ∀ H',Same H H' → Q (.bl true) H'
theorem lastN_lst {qs : Crn} (h : 1 ≤ qs.length) : ((lastN qs : Nat) : Int) = lst_ qs := by unfold lastN lst_; omega
theorem hop_len {m n : Nat} {F : Int → Int → Bool} {ps : List Pr} (h : HopW m n F ps) : ps.length < 900 := by
  obtain ⟨_,⟨cs,pc,_,_,_,hl,_⟩,_⟩ := h
  rw [← Paired.length pc]
  exact hl
theorem hopF_len {m n : Nat} {F : Int → Int → Bool} {ps : List Pr} (h : HopF m n F ps) : ps.length < 900 := by
  obtain ⟨_,⟨cs,pc,_,_,_,hl,_⟩,_⟩ := h
  rw [← Paired.length pc]
  exact hl
theorem all_true {n : Nat} {ks : List Nat} {ys : List V} (h : Paired (fun _ (y : V) => y = .bl true) ks ys) : ∃ bs : List Bool,ys = bs.map V.bl ∧ bs.all id = true := by
  induction h with
  | nil => exact ⟨[],rfl,rfl⟩
  | cons a r ih =>
    obtain ⟨bs,e1,e2⟩ := ih
    exact ⟨true :: bs,by rw [a,e1]; rfl,by rw [List.all_cons,e2]; rfl⟩
theorem S_law_shown : FnScope ["one","other","told","square","word","pairs"] ["one","other","told","square"] (defScope (top 58)) := ⟨rfl,rfl,rfl,by decide +kernel,rfl,by decide +kernel,by decide +kernel⟩
theorem fn_law_shown (D_law_shown : Df K mg "_law_shown" (top 58)) (F_law_is_walk : Fn P w K mg base "_law_is_walk" ["one","other","thing","way"] 5 spLWalk) (F_law_below : Fn P w K mg base "_law_below" ["one","other"] 1 spLess) (F_law_walk_square : Fn P w K mg base "_law_walk_square" ["one","other","walk"] 4 spLWS) (F_law_is_fence : Fn P w K mg base "_law_is_fence" ["one","other","thing","way"] 5 spLFence) (F_law_square_of : Fn P w K mg base "_law_square_of" ["one","x","other","y"] 3 spLS15) (T : Txt mg) : Fn P w K mg base "_law_shown" ["one","other","told","square"] 6 spShown := by
  refine D_law_shown.fn S_law_shown (fun _ _ _ _ _ _ us hl => by obtain ⟨_,_,_,_,rfl⟩ := len4 hl; rfl) (fun vs H Q E h => ?_) (fun f cdv A outer s H vs Q E hr h => ?_)
  · obtain ⟨l1,l2,t,r,z,qs1,qs2,a,b,ps,rfl,_⟩ := h
    rfl
  · obtain ⟨l1,l2,t,r,z,qs1,qs2,a,b,ps,rfl,L1,L2',⟨g1,h1⟩,⟨g2,h2⟩,sq,lw,⟨PP,alt⟩,q⟩ := h
    have CN : CompM (cxOf CX0 P w K mg base ["one","other","told","square","word","pairs"] "_law_shown" (defScope (top 58)) f cdv A outer s H E).nox (Sp7.retScope ((defBody (top 58)).getD 4 (.Pass ⟨0,0,0,0⟩))) [("square",s.heap.objs.size + 3),("other",s.heap.objs.size + 2),("one",s.heap.objs.size + 1)] ["x","y"] [("one",0),("other",1),("square",3)] :=
      ⟨by rfl,rfl,by decide +kernel,by decide +kernel,(fun x hx => by simp only [List.mem_cons,List.not_mem_nil,or_false] at hx; rcases hx with rfl | rfl <;> rfl),(fun p hp => by simp only [List.mem_cons,List.not_mem_nil,or_false] at hp; rcases hp with rfl | rfl | rfl <;> rfl),by rfl,by decide +kernel,(fun p hp => by simp only [List.mem_cons,List.not_mem_nil,or_false] at hp; rcases hp with rfl | rfl | rfl <;> exact ⟨rfl,rfl,.inr (.inl rfl),rfl,rfl⟩),⟨rfl,rfl⟩,rfl⟩
    refine ⟨_,(pss_cons (ps_if (pw_or (pt_not (pt_val (pe_callB call_isinst (by rfl) T.z_isinstance bt_isinstance (pa_cons (pv 2) (pa_cons (pe_ty T.z_tuple bt_tuple) pa_nil))))) (pw_or (pt_cmpR op_ne (pe_callB call_len_seq (by rfl) T.z_len bt_len (pa_cons (pv 2) pa_nil)) pe_int (nomark _)) (pw_or1 (pt_not (pt_val (pe_callB call_isinst (by rfl) T.z_isinstance bt_isinstance (pa_cons (pe_ix ix_tup (pv 2) pe_int (fun _ _ => rfl)) (pa_cons (pe_ty T.z_str bt_str) pa_nil)))))))).pt (pss_one (ps_ret pe_bl)) pss_nil) (pss_cons (ps_asg (pv 2) (pg_tup rfl (pgs_cons (pg_name (i := 4) S_law_shown.nd rfl (Or.inl rfl)) (pgs_cons (pg_name (i := 5) S_law_shown.nd rfl (Or.inl rfl)) pgs_nil)))) (pss_cons (ps_if (pt_cmpR op_eq (pv 4) pe_str (nomark _)) (pss_one (ps_ret (pe_and (pe_fn F_law_is_walk (hr.mono (by decide)) (by rfl) (pa_cons (pv 0) (pa_cons (pv 1) (pa_cons (pv 5) (pa_cons pe_str pa_nil))))) (pe_one (pe_not (pe_fn F_law_below (hr.mono (by decide)) (by rfl) (pa_cons (pv 3) (pa_cons (pe_fn F_law_walk_square (hr.mono (by decide)) (by rfl) (pa_cons (pv 0) (pa_cons (pv 1) (pa_cons (pv 5) pa_nil)))) pa_nil)))))))) pss_nil) (pss_cons (ps_if (pw_or (pt_cmpR op_ne (pv 4) pe_str (nomark _)) (pw_or1 (pt_not (pt_val (pe_fn F_law_is_fence (hr.mono (by decide)) (by rfl) (pa_cons (pv 0) (pa_cons (pv 1) (pa_cons (pv 5) (pa_cons pe_str pa_nil))))))))).pt (pss_one (ps_ret pe_bl)) pss_nil) (pss_one (ps_ret (pe_callB (call_all rfl) (by rfl) T.z_all bt_all (pa_cons (pe_compG rfl CN (pi_list (pv 5)) (fun fp s₀ H₀ => (pg_tupK (K := K) (n := 2) rfl rfl (pgs_cons (pg_name (i := 0) CN.nd rfl (Or.inl rfl) (Or.inr rfl)) (pgs_cons (pg_name (i := 1) CN.nd rfl (Or.inl rfl) (Or.inr rfl)) pgs_nil)))) (fun fp s₀ H₀ => pts_nil) (fun fp s₀ H₀ => (pe_fn F_law_below (hr.mono (by decide)) (by rfl) (pa_cons (pv 4) (pa_cons (pe_fn F_law_square_of (hr.mono (by decide)) (by rfl) (pa_cons (pv 2) (pa_cons (pv 0) (pa_cons (pv 3) (pa_cons (pv 1) pa_nil))))) pa_nil))))) pa_nil)))))))),?_⟩
    have hl1 : (qs1.map fun (q : Addr × Int × Int) => V.ref q.1).length = qs1.length := List.length_map _
    have hl2 : (qs2.map fun (q : Addr × Int × Int) => V.ref q.1).length = qs2.length := List.length_map _
    have n1 := lastN_lst g1
    have n2 := lastN_lst g2
    have bp : 0 < b := lw.pos
    rcases alt with ⟨e,h⟩ | ⟨e,h⟩
    · refine ⟨_,rfl,_,_,"tuple",rfl,.tup e,nice_tuple,_,rfl,iteFalse (by decide) ?_⟩
      refine ⟨_,rfl,t,_,rfl,.inr (SqT.of e),rfl,_,rfl,iteFalse rfl ?_⟩
      refine ⟨_,rfl,t,_,_,_,rfl,rfl,SqT.of e,rfl,_,_,"str",rfl,.str _,nice_str,_,rfl,iteFalse (by decide) ?_⟩
      refine ⟨_,rfl,t,_,rfl,SqT.of e,rfl,_,_,rfl,_,_,rfl,rfl,?_⟩
      refine ⟨_,rfl,rfl,_,rfl,iteTrue rfl ?_⟩
      have wb := hop_walk h
      have near := hop_near h
      rw [n1,n2] at wb
      have wb' : walkB ((((qs1.map fun (q : Addr × Int × Int) => V.ref q.1).length : Nat) : Int) - 1) ((((qs2.map fun (q : Addr × Int × Int) => V.ref q.1).length : Nat) : Int) - 1) wHops ps = true := by rw [hl1,hl2]; exact wb
      refine ⟨_,rfl,_,rfl,_,rfl,l1,l2,r,_,_,ps,wHops,rfl,⟨L1.lst,by rw [hl1]; omega⟩,⟨L2'.lst,by rw [hl2]; omega⟩,PP,hop_len h,fun H1 s1 => ⟨_,rfl,?_⟩⟩
      rw [wb']
      refine iteT ?_
      refine ⟨_,rfl,_,rfl,_,rfl,_,rfl,l1,l2,r,qs1,qs2,ps,rfl,⟨(L1.mono s1).la,g1,by omega⟩,⟨(L2'.mono s1).la,g2,by omega⟩,PP.mono s1,walk_all wb,fun y sN wN H2 f2 mx s2 => ?_⟩
      have sq2 := sq.mono (s1.trans s2)
      refine ⟨z,y,a,b,sN,wN,rfl,sq2.at_,f2.at_,⟨bits_le sq2.ba (by decide),bits_le sq2.bb (by decide),bits_le f2.ba (by decide),bits_le f2.bb (by decide)⟩,?_⟩
      have ok : ¬ a * wN < sN * b := by
        obtain ⟨u,hu,eu⟩ := mx.att
        obtain ⟨k1,k2,k3,k4,k5,k6,k7⟩ := near u hu
        rw [k5,k6,show sqD 1 1 = 1 from rfl,Int.mul_one] at eu
        have nf : ¬ a < sqF qs1 u.a 1 qs2 u.c 1 * b := fun z => by
          rw [(farB_whole (c := (u.a,u.c)) ⟨k1,k2⟩ ⟨k3,k4⟩ g1 g2).mpr z] at k7
          cases k7
        have wp : 0 < wN := mx.low.pos
        have m1 : sqF qs1 u.a 1 qs2 u.c 1 * b * wN ≤ a * wN := Int.mul_le_mul_of_nonneg_right (by omega) (by omega)
        have m2 : sN * b = sqF qs1 u.a 1 qs2 u.c 1 * b * wN := by rw [← eu,Int.mul_assoc,Int.mul_comm wN b,← Int.mul_assoc]
        omega
      refine ⟨_,rfl,?_⟩
      rw [show decide (a * wN < sN * b) = false from decide_eq_false ok]
      exact q H2 (s1.trans s2)
    · refine ⟨_,rfl,_,_,"tuple",rfl,.tup e,nice_tuple,_,rfl,iteFalse (by decide) ?_⟩
      refine ⟨_,rfl,t,_,rfl,.inr (SqT.of e),rfl,_,rfl,iteFalse rfl ?_⟩
      refine ⟨_,rfl,t,_,_,_,rfl,rfl,SqT.of e,rfl,_,_,"str",rfl,.str _,nice_str,_,rfl,iteFalse (by decide) ?_⟩
      refine ⟨_,rfl,t,_,rfl,SqT.of e,rfl,_,_,rfl,_,_,rfl,rfl,?_⟩
      refine ⟨_,rfl,rfl,_,rfl,iteFalse (by decide +kernel) ?_⟩
      refine ⟨_,rfl,rfl,_,rfl,iteFalse (by decide +kernel) ?_⟩
      have fb := hop_fence h
      have far := hop_far h
      have fl := hopF_len h
      rw [n1,n2] at fb
      have fb' : fenceB ((((qs1.map fun (q : Addr × Int × Int) => V.ref q.1).length : Nat) : Int) - 1) ((((qs2.map fun (q : Addr × Int × Int) => V.ref q.1).length : Nat) : Int) - 1) wHops ps = true := by rw [hl1,hl2]; exact fb
      refine ⟨_,rfl,_,rfl,_,rfl,l1,l2,r,_,_,ps,wHops,rfl,⟨L1.lst,by rw [hl1]; omega⟩,⟨L2'.lst,by rw [hl2]; omega⟩,PP,fl,fun H1 s1 => ⟨_,rfl,?_⟩⟩
      rw [fb']
      refine iteFalse rfl ?_
      have P1 := PP.mono s1
      refine ⟨_,rfl,r,rfl,⟨_,SqL.of P1.lst⟩,comp_lstF (k := 2) P1.lst (by rw [prs_len]; omega) (fun _ => true) (fun _ y => y = .bl true) ?_ ?_⟩
      · intro n x H2 τ Kc Kn hx s2 hτ kc kn
        obtain ⟨q',hq,rfl⟩ := prs_get hx
        have pq := (P1.mono s2).pr q' (List.mem_of_getElem? hq)
        obtain ⟨k1,k2,k3,k4,k5,k6,k7⟩ := far q' (List.mem_of_getElem? hq)
        have hi := in_of k2 k4 k5 k6
        rw [n1,n2] at hi
        have plx := pq.plx hi (show lst_ qs1 ≤ 100 by unfold lst_; omega)
        have ply := pq.ply hi (show lst_ qs2 ≤ 100 by unfold lst_; omega)
        obtain ⟨τ0,τ1,rfl⟩ : ∃ τ0 τ1,τ = [τ0,τ1] := by
          match τ,hτ with
          | [x,y],_ => exact ⟨x,y,rfl⟩
        refine ⟨q'.p,_,rfl,SqT.of pq.p_,rfl,_,_,rfl,_,_,rfl,rfl,⟨[some (.ref q'.x),some (.ref q'.y)],rfl,rfl⟩,?_⟩
        refine (?_ : ite (true = true) _ (Kn H2))
        rw [if_pos rfl]
        have S2 := s1.trans s2
        refine ⟨_,rfl,_,rfl,_,rfl,_,rfl,_,rfl,l1,q'.x,l2,q'.y,qs1,qs2,q'.a,q'.b,q'.c,q'.d,rfl,(L1.mono S2).la,(L2'.mono S2).la,⟨g1,by omega⟩,⟨g2,by omega⟩,plx,ply,fun y sN wN H3 fr f3 s3 => ?_⟩
        have sq3 := sq.mono (S2.trans s3)
        refine ⟨z,y,a,b,sN,wN,rfl,sq3.at_,f3.at_,⟨bits_le sq3.ba (by decide),bits_le sq3.bb (by decide),bits_le f3.ba (by decide),bits_le f3.bb (by decide)⟩,?_⟩
        have ok : a * wN < sN * b := by
          have eu := fr.eq
          rw [k5,k6,show sqD 1 1 = 1 from rfl,Int.mul_one] at eu
          have nf := (farB_whole (c := (q'.a,q'.c)) ⟨k1,k2⟩ ⟨k3,k4⟩ g1 g2).mp k7
          have wp : 0 < wN := fr.low.pos
          have m1 : a * wN < sqF qs1 q'.a 1 qs2 q'.c 1 * b * wN := Int.mul_lt_mul_of_pos_right nf wp
          have m2 : sN * b = sqF qs1 q'.a 1 qs2 q'.c 1 * b * wN := by rw [← eu,Int.mul_assoc,Int.mul_comm wN b,← Int.mul_assoc]
          omega
        exact kc rfl _ H3 s3 (by rw [decide_eq_true ok])
      · intro l ys H2 nl s2 f2 pr
        obtain ⟨bs,e1,e2⟩ := all_true (n := 0) pr
        rw [e1] at f2
        refine ⟨l,bs,rfl,SqL.of f2,?_⟩
        rw [e2]
        exact q H2 (s1.trans s2)
def MvN (p : Addr) (H H' : Hp) : Prop := ∀ b o,b ≠ p → H b = some o → (∀ ps,o ≠ .tbl ps) → H' b = some o
theorem MvN.of_but {p : Addr} {H H' : Hp} (s : But p H H') : MvN p H H' := fun b o n e _ => s b o n e
theorem tab_but {p t : Addr} {H H' : Hp} {k : Int} {ls : List (Pos × Str)} (x : Tab H t ls) (b : But p H H') (pt : Pot H p k) : Tab H' t ls := by
  obtain ⟨ps,e,tr,al⟩ := x
  obtain ⟨u,v,w,ep,_⟩ := pt
  have ne : ∀ {c : Addr} {o : HO},H c = some o → (∀ xs,o ≠ .lst xs) → c ≠ p := fun {c o} e n z => by
    rw [z,ep] at e
    exact n _ (Option.some.inj e).symm
  refine ⟨ps,b _ _ (ne e fun xs q => by cases q) e,tr,fun l hl => (al l hl).imp_right ?_⟩
  rintro ⟨c,e2,o,vs,t,e3,r⟩
  exact ⟨c,e2,o,vs,t,b _ _ (ne e3 fun xs q => by cases q) e3,r⟩
theorem Tabs.but {p tw tf : Addr} {H H' : Hp} {k : Int} (x : Tabs H tw tf) (b : But p H H') (pt : Pot H p k) : Tabs H' tw tf := ⟨tab_but x.w b pt,tab_but x.f b pt,x.ne⟩
theorem sq_n {z : Addr} {H H' : Hp} {a b : Int} (q : Sq H z a b) (s : SameN H H') : Sq H' z a b := ⟨s.t q.at_,q.ba,q.bb⟩
theorem tab_new {H : Hp} {t : Addr} {ls : List (Pos × Str)} (e : H t = some (.tbl #[])) : Tab H t ls := ⟨#[],e,trivial,fun _ _ => .inl rfl⟩
theorem dpr_same {cs : List (Int × Int)} : ∀ {ps ps' : List Pr},Paired (fun c q => prC q c) cs ps → Paired (fun c q => prC q c) cs ps' → ps.map dPr = ps'.map dPr := by
  induction cs with
  | nil =>
    intro ps ps' p p'
    cases p
    cases p'
    rfl
  | cons c r ih =>
    intro ps ps' p p'
    cases p with
    | cons a b =>
      cases p' with
      | cons a' b' =>
        rw [List.map_cons,List.map_cons,ih b b']
        obtain ⟨h1,h2,h3,h4⟩ := a
        obtain ⟨g1,g2,g3,g4⟩ := a'
        unfold dPr
        rw [h1,h2,h3,h4,g1,g2,g3,g4]
theorem told_same {H H' : Hp} {t t' r r' : Addr} {qs1 qs2 : Crn} {a b : Int} {ps ps' : List Pr} (x : Told H t r qs1 qs2 a b ps) (y : Told H' t' r' qs1 qs2 a b ps') : ∃ wd : Str,H t = some (.tup [.str wd,.ref r]) ∧ H' t' = some (.tup [.str wd,.ref r']) ∧ ps.map dPr = ps'.map dPr := by
  rcases x.alt with ⟨e,h⟩ | ⟨e,h⟩
  · rcases y.alt with ⟨e',h'⟩ | ⟨e',h'⟩
    · refine ⟨_,e,e',?_⟩
      obtain ⟨_,_,l,f,p⟩ := h
      obtain ⟨_,_,l',f',p'⟩ := h'
      rw [f.uniq f'] at p
      exact dpr_same p p'
    · exact absurd (hopW_rch h) (noHop_rch h'.1)
  · rcases y.alt with ⟨e',h'⟩ | ⟨e',h'⟩
    · exact absurd (hopW_rch h') (noHop_rch h.1)
    · refine ⟨_,e,e',?_⟩
      obtain ⟨_,_,l,f,p⟩ := h
      obtain ⟨_,_,l',f',p'⟩ := h'
      rw [f.uniq f'] at p
      exact dpr_same p p'
theorem pr_rp7 {H : Hp} {q : Pr} (h : PrAt H q) : Rp H 7 (.ref q.p) (dPr q) := Rp.t2 h.p_ (Rp.t2 h.x_ .int .int) (Rp.t2 h.y_ .int .int)
theorem prs_rp8 {H : Hp} {l : Addr} {ps : List Pr} (P : PairsAt H l ps) : Rp H 8 (.ref l) (.lst (ps.map dPr)) := .lst P.lst (by rw [prs_len,List.length_map]) fun j x d a b => by
  obtain ⟨q,hq,rfl⟩ := prs_get a
  rw [List.getElem?_map,hq] at b
  cases b
  exact pr_rp7 (P.pr q (List.mem_of_getElem? hq))
theorem line_upd {H H' : Hp} {l x : Addr} {xs ys : List V} {qs : Crn} (L : LineM H l qs) (u : Upd H H' x xs ys) (n : l ≠ x) : LineM H' l qs := ⟨u.at n L.lst,fun q hq => ⟨u.t _ _ (L.crn q hq).1,(L.crn q hq).2⟩⟩
theorem tab_upd {p t : Addr} {H H' : Hp} {xs ys : List V} {ls : List (Pos × Str)} (x : Tab H t ls) (u : Upd H H' p xs ys) : Tab H' t ls := by
  obtain ⟨ps,e,tr,al⟩ := x
  have ne : ∀ {c : Addr} {o : HO},H c = some o → (∀ xs,o ≠ .lst xs) → c ≠ p := fun {c o} e n z => by
    rw [z,u.was] at e
    exact n _ (Option.some.inj e).symm
  refine ⟨ps,u.at (ne e fun xs q => by cases q) e,tr,fun l hl => (al l hl).imp_right ?_⟩
  rintro ⟨c,e2,o,vs,t,e3,r⟩
  exact ⟨c,e2,o,vs,t,u.at (ne e3 fun xs q => by cases q) e3,r⟩
theorem tabs_upd {p tw tf : Addr} {H H' : Hp} {xs ys : List V} (x : Tabs H tw tf) (u : Upd H H' p xs ys) : Tabs H' tw tf := ⟨tab_upd x.w u,tab_upd x.f u,x.ne⟩
theorem told_ne {H : Hp} {t r : Addr} {qs1 qs2 : Crn} {a b : Int} {ps : List Pr} (x : Told H t r qs1 qs2 a b ps) : ps ≠ [] := by
  rcases x.alt with ⟨e,h⟩ | ⟨e,h⟩
  · exact (walk_all (hop_walk h)).1
  · obtain ⟨_,⟨cs,pc,⟨c,r,hr,_⟩,_⟩,_⟩ := h
    obtain ⟨q,hq,_⟩ := head_pc pc hr
    rintro rfl
    cases hq
theorem told_len {H : Hp} {t r : Addr} {qs1 qs2 : Crn} {a b : Int} {ps : List Pr} (x : Told H t r qs1 qs2 a b ps) : ps.length < 900 := by
  rcases x.alt with ⟨e,h⟩ | ⟨e,h⟩
  · exact hop_len h
  · exact hopF_len h
theorem S_law : FnScope ["script","one","other","first","second","cell","square","told","kept"] ["script"] (defScope (top 59)) := ⟨rfl,rfl,rfl,by decide +kernel,rfl,by decide +kernel,by decide +kernel⟩
theorem fn_law {C_NoSquare t_hops_walk t_hops_fence : Addr} (D_law : Df K mg "law" (top 59)) (AP : t_hops_walk ≠ t_hops_fence) (F_law_lines : Fn P w K mg base "_law_lines" ["script"] 5 (spLines K)) (F_law_folded : Fn P w K mg base "_law_folded" ["cells","many"] 1 spFolded) (F_law_begun : Fn P w K mg base "_law_begun" ["cell"] 1 Dr.spBegun) (F_law_drawn_leash : Fn P w K mg base "_law_drawn_leash" ["pot","one","other"] 4 spLeash) (F_go_hops : Fx P w K mg base "go_hops" ["one","other","square"] 7 [] (spGo C_NoSquare t_hops_walk t_hops_fence)) (F_law_shown : Fn P w K mg base "_law_shown" ["one","other","told","square"] 6 spShown) (T : Txt mg) : Fn P w K mg base "law" ["script"] 9 (spLawT K [t_hops_walk,t_hops_fence]) := by
  refine D_law.fn S_law (fun _ _ _ _ _ _ us hl => by obtain ⟨_,rfl⟩ := len1 hl; rfl) (fun vs H Q E h => ?_) (fun f cdv A outer s H vs Q E hr h => ?_)
  · obtain ⟨sa,ss,rfl,_⟩ := h
    rfl
  · obtain ⟨sa,ss,rfl,hS,hlen,htab,fin⟩ := h
    refine ⟨_,(pss_cons (ps_asg (pe_fn F_law_lines (hr.mono (by decide)) (by rfl) (pa_cons (pv 0) pa_nil)) (pg_tup rfl (pgs_cons (pg_name (i := 1) S_law.nd rfl (Or.inl rfl)) (pgs_cons (pg_name (i := 2) S_law.nd rfl (Or.inl rfl)) pgs_nil)))) (pss_cons (ps_set (i := 3) S_law.nd rfl (Or.inl rfl) (pe_callTy call_list_ofA (by rfl) T.z_list bt_list (pa_cons (pv 1) pa_nil))) (pss_cons (ps_set (i := 4) S_law.nd rfl (Or.inl rfl) (pe_callTy call_list_ofA (by rfl) T.z_list bt_list (pa_cons (pv 2) pa_nil))) (pss_cons (ps_for PassesOwn.never rfl (pi_list (pe_fn F_law_folded (hr.mono (by decide)) (by rfl) (pa_cons (pe_slice sl_listA (pv 0) (po_some pe_int) po_none) (pa_cons pe_int pa_nil)))) (pg_name (i := 5) S_law.nd rfl (Or.inl rfl)) (pss_cons (ps_set (i := 6) S_law.nd rfl (Or.inl rfl) (pe_fn F_law_drawn_leash (hr.mono (by decide)) (by rfl) (pa_cons (pe_fn F_law_begun (hr.mono (by decide)) (by rfl) (pa_cons (pv 5) pa_nil)) (pa_cons (pv 1) (pa_cons (pv 2) pa_nil))))) (pss_cons (ps_set (i := 7) S_law.nd rfl (Or.inl rfl) (pe_fx0 F_go_hops (hr.mono (by decide)) (by rfl) (pa_cons (pv 3) (pa_cons (pv 4) (pa_cons (pv 6) pa_nil))))) (pss_cons (ps_if (pw_or (pt_not (pt_val (pe_fn F_law_shown (hr.mono (by decide)) (by rfl) (pa_cons (pv 1) (pa_cons (pv 2) (pa_cons (pv 7) (pa_cons (pv 6) pa_nil))))))) (pw_or (pt_cmpR (op_neD hr.units10) (pv 3) (pv 1) (nomark _)) (pw_or1 (pt_cmpR (op_neD hr.units10) (pv 4) (pv 2) (nomark _))))).pt (pss_one (ps_ret pe_bl)) pss_nil) (pss_cons (ps_set (i := 8) S_law.nd rfl (Or.inl rfl) (pe_tupA (pa_cons (pe_ix ix_tup (pv 7) pe_int (fun _ _ => rfl)) (pa_cons (pe_callTy call_list_ofA (by rfl) T.z_list bt_list (pa_cons (pe_ix ix_tup (pv 7) pe_int (fun _ _ => rfl)) pa_nil)) pa_nil)))) (pss_cons (ps_expr (pe_bm0 PySem.F.plainAttrs_list PySem.F.slot_list_reverse PySem.F.type_list_reverse mt_reverseA (pe_ix ix_tup (pv 7) pe_int (fun _ _ => rfl)))) (pss_cons (ps_expr (pe_bm PySem.F.plainAttrs_list PySem.F.slot_list_append PySem.F.type_list_append mt_appendA (pe_ix ix_tup (pv 7) pe_int (fun _ _ => rfl)) (pa_cons (pe_ix ix_list (pe_ix ix_tup (pv 7) pe_int (fun _ _ => rfl)) pe_int (fun _ _ => rfl)) pa_nil))) (pss_one (ps_if (pt_cmpR (op_neD hr.units10) (pe_fx0 F_go_hops (hr.mono (by decide)) (by rfl) (pa_cons (pv 3) (pa_cons (pv 4) (pa_cons (pv 6) pa_nil)))) (pv 8) (nomark _)) (pss_one (ps_ret pe_bl)) pss_nil))))))))) (pss_one (ps_ret pe_bl)))))),?_⟩
    have TB : Tabs H t_hops_walk t_hops_fence := ⟨tab_new (htab _ List.mem_cons_self),tab_new (htab _ (List.mem_cons_of_mem _ List.mem_cons_self)),AP⟩
    refine ⟨_,rfl,sa,ss,rfl,hS,fun t0 l r qs rs H1 s1 et L1 ⟨h1,h10⟩ R1 ⟨g1,g10⟩ nl nr nlr => ?_⟩
    refine ⟨t0,_,rfl,SqT.of et,rfl,_,_,rfl,_,_,rfl,rfl,?_⟩
    refine ⟨_,rfl,l,_,rfl,.inl (SqL.of L1.lst),fun f1 H2 s2 e2 n2 => ?_⟩
    refine ⟨_,rfl,r,_,rfl,.inl (SqL.of (s2 _ _ R1.lst)),fun f2 H3 s3 e3 n3 => ?_⟩
    have S3 := s2.trans s3
    have q20 : 1 ≤ qs.length ∧ qs.length ≤ 20 := ⟨h1,by omega⟩
    have r20 : 1 ≤ rs.length ∧ rs.length ≤ 20 := ⟨g1,by omega⟩
    refine ⟨_,rfl,_,rfl,sa,_,rfl,(s1.trans S3).seq hS,fun c H5 s5 f5 n5 => ?_⟩
    rw [show (2 : Int) = ((2 : Nat) : Int) from rfl,cut_from] at f5
    refine ⟨c,_,rfl,f5,by rw [List.length_drop]; omega,fun fo zs H6 e6 s6 => ?_⟩
    have S6 := (S3.trans s5).trans s6
    have L6 := L1.mono S6
    have R6 := R1.mono S6
    have LF6 : LineM H6 f1 qs := ⟨((s3.trans s5).trans s6) _ _ e2,L6.crn⟩
    have RF6 : LineM H6 f2 rs := ⟨(s5.trans s6) _ _ e3,R6.crn⟩
    have tb6 := TB.same (s1.trans S6)
    refine ⟨fo,rfl,⟨_,SqL.of e6⟩,for_list (K := K) (a := fo) (xs := zs.map V.int) (fun i σ H7 => ∃ z5 z6 z7 z8,σ = [some (.ref sa),some (.ref l),some (.ref r),some (.ref f1),some (.ref f2),z5,z6,z7,z8] ∧ SameN H6 H7 ∧ Tabs H7 t_hops_walk t_hops_fence)
      ⟨none,none,none,none,rfl,SameN.refl _,tb6⟩ (fun i σ H7 _ ⟨_,_,_,_,_,s7,_⟩ => SqL.of (s7.l e6)) ?_ ?_⟩
    · rintro i x σ H7 hx ⟨z5,z6,z7,z8,rfl,s7,tb7⟩
      rw [List.getElem?_map] at hx
      obtain ⟨cc,_,rfl⟩ := Option.map_eq_some_iff.mp hx
      have L7 := s7.line L6
      have R7 := s7.line R6
      have LF7 := s7.line LF6
      have RF7 := s7.line RF6
      refine ⟨_,rfl,cc,rfl,fun p H8 s8 n8 p8 => ?_⟩
      have lp : l ≠ p := ne_of_none L7.lst n8
      have rp : r ≠ p := ne_of_none R7.lst n8
      have lfp : f1 ≠ p := ne_of_none LF7.lst n8
      have rfp : f2 ≠ p := ne_of_none RF7.lst n8
      refine ⟨_,rfl,_,rfl,p,l,r,qs,rs,_,rfl,p8,by decide,L7.mono s8,R7.mono s8,⟨h1,h10⟩,⟨g1,g10⟩,⟨lp,rp⟩,fun z a b H9 nz nzp sq lw ha b9 p9 => ?_⟩
      have L9 := (L7.mono s8).but b9 p8 lp
      have R9 := (R7.mono s8).but b9 p8 rp
      have LF9 := (LF7.mono s8).but b9 p8 lfp
      have RF9 := (RF7.mono s8).but b9 p8 rfp
      have tb9 := (tb7.same s8).but b9 p8
      have M9 : MvN p H8 H9 := .of_but b9
      refine ⟨_,rfl,_,rfl,_,rfl,f1,f2,qs,rs,.ref z,rfl,LF9,RF9,q20,r20,th_sq sq,.inr ⟨sqV_of sq lw ha,z,a,b,rfl,sq,tb9,fun t rr H10 ps nr10 nt10 ntr N10 tb10 pp alt => ?_⟩⟩
      have tl : Told H10 t rr qs rs a b ps := ⟨pp,alt⟩
      have L10 := N10.line L9
      have R10 := N10.line R9
      have LF10 := N10.line LF9
      have RF10 := N10.line RF9
      have sq10 := sq_n sq N10
      refine ⟨_,rfl,_,rfl,_,rfl,_,rfl,l,r,t,rr,z,qs,rs,a,b,ps,rfl,L10,R10,⟨h1,h10⟩,⟨g1,g10⟩,sq10,lw,tl,fun H11 s11 => ⟨_,rfl,iteFalse rfl ?_⟩⟩
      have L11 := L10.mono s11
      have R11 := R10.mono s11
      have LF11 := LF10.mono s11
      have RF11 := RF10.mono s11
      refine ⟨_,rfl,_,rfl,_,_,line_rpM LF11,line_rpM L11,_,rfl,iteFalse (by rw [deq_self]; rfl) ?_⟩
      refine ⟨_,rfl,_,rfl,_,_,line_rpM RF11,line_rpM R11,_,rfl,iteFalse (by rw [deq_self]; rfl) ?_⟩
      obtain ⟨wd,et10,_,_⟩ := told_same tl tl
      have et11 := s11 _ _ et10
      have pp11 := pp.mono s11
      refine ⟨_,rfl,t,_,_,_,rfl,rfl,SqT.of et11,rfl,_,rfl,t,_,_,_,rfl,rfl,SqT.of et11,rfl,rr,_,rfl,.inl (SqL.of pp11.lst),fun k1 H12 s12 e12 n12 => ⟨sz (by simp),fun kp H13 s13 f13 n13 => ?_⟩⟩
      have S13 := (s11.trans s12).trans s13
      have et13 := S13 _ _ et10
      have pp13 := pp.mono S13
      have k1rr : k1 ≠ rr := fun z => by rw [z,pp11.lst] at n12; cases n12
      have pl := told_len tl
      have pn := told_ne tl
      refine ⟨_,rfl,t,_,_,_,rfl,rfl,SqT.of et13,rfl,.inl ⟨rfl,_,SqL.of pp13.lst⟩,rr,_,rfl,rfl,pp13.lst,fun H14 u => ?_⟩
      have et14 := u.t _ _ et13
      obtain ⟨v,hv⟩ : ∃ v,(prs ps).reverse[0]? = some v := ⟨(prs ps).reverse[0]'(by rw [List.length_reverse,prs_len]; exact List.length_pos_iff.mpr pn),List.getElem?_eq_getElem _⟩
      refine ⟨_,rfl,t,_,_,_,rfl,rfl,SqT.of et14,rfl,.inl ⟨rfl,_,SqL.of u.now⟩,_,rfl,t,_,_,_,rfl,rfl,SqT.of et14,rfl,rr,_,_,_,rfl,rfl,SqL.of u.now,atI_nat (j := 0) hv,rr,_,_,rfl,rfl,u.now,small1000 (by rw [List.length_reverse,prs_len]; omega),fun H15 u2 => ?_⟩
      have f1r : f1 ≠ rr := ne_of_none LF9.lst nr10
      have f2r : f2 ≠ rr := ne_of_none RF9.lst nr10
      have LF15 := line_upd (line_upd (LF10.mono S13) u f1r) u2 f1r
      have RF15 := line_upd (line_upd (RF10.mono S13) u f2r) u2 f2r
      have sq13 := sq10.mono S13
      have sq15 : Sq H15 z a b := ⟨u2.t _ _ (u.t _ _ sq13.at_),sq13.ba,sq13.bb⟩
      have tb15 := tabs_upd (tabs_upd (tb10.same S13) u) u2
      refine ⟨_,rfl,_,rfl,_,rfl,f1,f2,qs,rs,.ref z,rfl,LF15,RF15,q20,r20,th_sq sq15,.inr ⟨sqV_of sq15 lw ha,z,a,b,rfl,sq15,tb15,fun t' rr' H16 ps' nr16 nt16 ntr' N16 tb16 pp' alt' => ?_⟩⟩
      have tl' : Told H16 t' rr' qs rs a b ps' := ⟨pp',alt'⟩
      obtain ⟨wd',et',et16,ed⟩ := told_same tl tl'
      rw [et10] at et'
      cases et'
      have T16 : ∀ {c : Addr} {xs : List V},H13 c = some (.tup xs) → H16 c = some (.tup xs) := fun e => N16.t (u2.t _ _ (u.t _ _ e))
      have k16 : PairsAt H16 k1 ps := ⟨N16.l (u2.at k1rr (u.at k1rr (s13 _ _ e12))),fun q hq => (pp13.pr q hq).t fun c xs e => T16 e⟩
      refine ⟨_,rfl,_,_,Rp.t2 et16 .str (prs_rp8 pp'),Rp.t2 (T16 f13) .str (prs_rp8 k16),_,rfl,iteFalse (by rw [ed,deq_self]; rfl) ?_⟩
      refine ⟨_,_,_,_,rfl,fun c o e m => ?_,tb16⟩
      have e7 := s7 c o e m
      have e9 := b9 c o (ne_of_none e7 n8) (s8 _ _ e7)
      have ncr := ne_of_none e9 nr10
      exact N16 c o (u2.at ncr (u.at ncr (S13 _ _ (N10 c o e9 m)))) m
    · rintro σ H7 ⟨z5,z6,z7,z8,rfl,s7,tb7⟩
      exact fin _
end
theorem hLeft : PySem.W.LeftO PySem.Challenge.rw_oneleash_k35_whole_papers_of_hops.prog hView hLoose (fun _ => true) (PySem.W.Hook.obs (Hd.hookT hFacts hGood)) (PySem.W.Hook.val (Hd.hookT hFacts hGood)) 100000 := hAll
theorem hTabOk {K : PySem.W.Frag} (FK : hFacts K = hGood) : hTabs.all (Hd.tabFact K) = true := (congrArg Prod.fst (congrArg Prod.snd (congrArg Prod.snd FK)))
theorem all_of {P : Program} {w : World} {K0 K : PySem.W.Frag} (eK : K = Hd.strip K0) (FK0 : hFacts K0 = hGood) {h : Heap} {mg : Str → Option Value} {fa : Addr} (X : K.In h) (G : h.Ns mainGlobals mg) (hfa : mg "law" = some (.ref fa)) :
    ∃ fd : FuncData,(∀ (s : Shared) (v : Value),BindsTo s fd ⟨[v],[]⟩ [("script",v)]) ∧ ∀ base : Heap,K.In base → base.Ns mainGlobals mg → FnOk P w K mg base CX0 9 fa fd ["script"] (spLawT K (hTabs.map (Hd.tabP K0))) := by
  have FK : (hF0 K,hF1 K,hF2 K0) = hGood := by
    rw [eK]
    exact FK0
  have H0 : (hNames0.map (fun p => Hd.fnFact K p.1) : List (Option (Arguments × List Stmt × Scope × Value))) = hNames0.map (fun p => some (defArgs (top p.2),defBody (top p.2),defScope (top p.2),.none)) := (congrArg Prod.fst FK)
  have H1 : (hNamesD.map (fun p => Hd.fnFactD K p.1) : List (Option (Arguments × List Stmt × Scope × List V))) = hNamesD.map (fun p => some (defArgs (top p.2.1),defBody (top p.2.1),defScope (top p.2.1),p.2.2)) := (congrArg Prod.fst (congrArg Prod.fst (congrArg Prod.snd FK)))
  have H2 : (hExc.all (Hd.excFact K) : Bool) = true := (congrArg Prod.fst (congrArg Prod.snd (congrArg Prod.fst (congrArg Prod.snd FK))))
  have H3 : (hNo.all (Hd.noFact K) : Bool) = true := (congrArg Prod.fst (congrArg Prod.snd (congrArg Prod.snd (congrArg Prod.fst (congrArg Prod.snd FK)))))
  have H4 : (hTup.map (fun p => Hd.tupFact K p.1) : List (Option (List V))) = hTup.map (fun p => some p.2) := (congrArg Prod.snd (congrArg Prod.snd (congrArg Prod.snd (congrArg Prod.fst (congrArg Prod.snd FK)))))
  have H5 : (hTabs.all (Hd.tabFact K0) : Bool) = true := (congrArg Prod.fst (congrArg Prod.snd (congrArg Prod.snd FK)))
  have H6 : (Hd.bltFact (Hd.strip K0) : Bool) = true := (congrArg Prod.fst (congrArg Prod.snd (congrArg Prod.snd (congrArg Prod.snd FK))))
  have H7 : (Hd.apart (hTabs.map (Hd.tabP K0)) : Bool) = true := (congrArg Prod.snd (congrArg Prod.snd (congrArg Prod.snd (congrArg Prod.snd FK))))
  have D_is_whole : Df K mg "is_whole" (top 4) := Hd.df_of X G (Hd.at_map H0 0 rfl)
  have D_common_divisor : Df K mg "common_divisor" (top 5) := Hd.df_of X G (Hd.at_map H0 1 rfl)
  have D_is_ratio : Df K mg "is_ratio" (top 6) := Hd.df_of X G (Hd.at_map H0 2 rfl)
  have D_last_of : Df K mg "last_of" (top 8) := Hd.df_of X G (Hd.at_map H0 3 rfl)
  have D_hops_aside : Df K mg "hops_aside" (top 10) := Hd.df_of X G (Hd.at_map H0 4 rfl)
  have D_sign_of : Df K mg "sign_of" (top 12) := Hd.df_of X G (Hd.at_map H0 5 rfl)
  have D_look_at_square : Df K mg "look_at_square" (top 14) := Hd.df_of X G (Hd.at_map H0 6 rfl)
  have D_leash_order : Df K mg "leash_order" (top 15) := Hd.df_of X G (Hd.at_map H0 7 rfl)
  have D_far_corners : Df K mg "far_corners" (top 17) := Hd.df_of X G (Hd.at_map H0 8 rfl)
  have D_begins_fence : Df K mg "begins_fence" (top 18) := Hd.df_of X G (Hd.at_map H0 9 rfl)
  have D_ends_fence : Df K mg "ends_fence" (top 19) := Hd.df_of X G (Hd.at_map H0 10 rfl)
  have D_pair_at_corner : Df K mg "pair_at_corner" (top 20) := Hd.df_of X G (Hd.at_map H0 11 rfl)
  have D_row_to : Df K mg "row_to" (top 22) := Hd.df_of X G (Hd.at_map H0 12 rfl)
  have D_seek : Df K mg "seek" (top 23) := Hd.df_of X G (Hd.at_map H0 13 rfl)
  have D_steps_on : Df K mg "steps_on" (top 25) := Hd.df_of X G (Hd.at_map H0 14 rfl)
  have D_hops_walk : DfT K mg "hops_walk" (top 26) (Hd.tabP K0 "hops_walk") := by
    subst eK
    exact Hd.dft_of X G (Hd.at_map H0 15 rfl) (Hd.at_all H5 0 rfl)
  have D_steps_aside : Df K mg "steps_aside" (top 27) := Hd.df_of X G (Hd.at_map H0 16 rfl)
  have D_hops_fence : DfT K mg "hops_fence" (top 28) (Hd.tabP K0 "hops_fence") := by
    subst eK
    exact Hd.dft_of X G (Hd.at_map H0 17 rfl) (Hd.at_all H5 1 rfl)
  have D_go_hops : Df K mg "go_hops" (top 29) := Hd.df_of X G (Hd.at_map H0 18 rfl)
  have D_law_cell_at : Df K mg "_law_cell_at" (top 31) := Hd.df_of X G (Hd.at_map H0 19 rfl)
  have D_law_folded : Df K mg "_law_folded" (top 32) := Hd.df_of X G (Hd.at_map H0 20 rfl)
  have D_law_begun : Df K mg "_law_begun" (top 33) := Hd.df_of X G (Hd.at_map H0 21 rfl)
  have D_law_take : Df K mg "_law_take" (top 34) := Hd.df_of X G (Hd.at_map H0 22 rfl)
  have D_law_wide : Df K mg "_law_wide" (top 35) := Hd.df_of X G (Hd.at_map H0 23 rfl)
  have D_law_drawn_line : Df K mg "_law_drawn_line" (top 36) := Hd.df_of X G (Hd.at_map H0 24 rfl)
  have D_law_moved : Df K mg "_law_moved" (top 37) := Hd.df_of X G (Hd.at_map H0 25 rfl)
  have D_law_drawn_other : Df K mg "_law_drawn_other" (top 38) := Hd.df_of X G (Hd.at_map H0 26 rfl)
  have D_law_lines : Df K mg "_law_lines" (top 39) := Hd.df_of X G (Hd.at_map H0 27 rfl)
  have D_law_divisor : Df K mg "_law_divisor" (top 40) := Hd.df_of X G (Hd.at_map H0 28 rfl)
  have D_law_ratio : Df K mg "_law_ratio" (top 41) := Hd.df_of X G (Hd.at_map H0 29 rfl)
  have D_law_below : Df K mg "_law_below" (top 42) := Hd.df_of X G (Hd.at_map H0 30 rfl)
  have D_law_whole : Df K mg "_law_whole" (top 43) := Hd.df_of X G (Hd.at_map H0 31 rfl)
  have D_law_is_ratio : Df K mg "_law_is_ratio" (top 44) := Hd.df_of X G (Hd.at_map H0 32 rfl)
  have D_law_is_place : Df K mg "_law_is_place" (top 45) := Hd.df_of X G (Hd.at_map H0 33 rfl)
  have D_law_near : Df K mg "_law_near" (top 46) := Hd.df_of X G (Hd.at_map H0 34 rfl)
  have D_law_are_pairs : Df K mg "_law_are_pairs" (top 47) := Hd.df_of X G (Hd.at_map H0 35 rfl)
  have D_law_goes : Df K mg "_law_goes" (top 48) := Hd.df_of X G (Hd.at_map H0 36 rfl)
  have D_law_is_walk : Df K mg "_law_is_walk" (top 49) := Hd.df_of X G (Hd.at_map H0 37 rfl)
  have D_law_back : Df K mg "_law_back" (top 50) := Hd.df_of X G (Hd.at_map H0 38 rfl)
  have D_law_steps : Df K mg "_law_steps" (top 51) := Hd.df_of X G (Hd.at_map H0 39 rfl)
  have D_law_is_fence : Df K mg "_law_is_fence" (top 52) := Hd.df_of X G (Hd.at_map H0 40 rfl)
  have D_law_point_at : Df K mg "_law_point_at" (top 53) := Hd.df_of X G (Hd.at_map H0 41 rfl)
  have D_law_square_of : Df K mg "_law_square_of" (top 54) := Hd.df_of X G (Hd.at_map H0 42 rfl)
  have D_law_apart : Df K mg "_law_apart" (top 55) := Hd.df_of X G (Hd.at_map H0 43 rfl)
  have D_law_drawn_leash : Df K mg "_law_drawn_leash" (top 56) := Hd.df_of X G (Hd.at_map H0 44 rfl)
  have D_law_walk_square : Df K mg "_law_walk_square" (top 57) := Hd.df_of X G (Hd.at_map H0 45 rfl)
  have D_law_shown : Df K mg "_law_shown" (top 58) := Hd.df_of X G (Hd.at_map H0 46 rfl)
  have D_law : Df K mg "law" (top 59) := Hd.df_of X G (Hd.at_map H0 47 rfl)
  have O_NoSquare : ExcC K mg "NoSquare" (Hd.cls K "NoSquare") := Hd.exc_of X G (Hd.at_all H2 0 rfl)
  have T : Txt mg := ⟨PySem.W.mg_none_of X G (Hd.no_of (Hd.at_all H3 0 rfl)),PySem.W.mg_none_of X G (Hd.no_of (Hd.at_all H3 1 rfl)),PySem.W.mg_none_of X G (Hd.no_of (Hd.at_all H3 2 rfl)),PySem.W.mg_none_of X G (Hd.no_of (Hd.at_all H3 3 rfl)),PySem.W.mg_none_of X G (Hd.no_of (Hd.at_all H3 4 rfl)),PySem.W.mg_none_of X G (Hd.no_of (Hd.at_all H3 5 rfl)),PySem.W.mg_none_of X G (Hd.no_of (Hd.at_all H3 6 rfl)),PySem.W.mg_none_of X G (Hd.no_of (Hd.at_all H3 7 rfl)),PySem.W.mg_none_of X G (Hd.no_of (Hd.at_all H3 8 rfl)),PySem.W.mg_none_of X G (Hd.no_of (Hd.at_all H3 9 rfl)),PySem.W.mg_none_of X G (Hd.no_of (Hd.at_all H3 10 rfl)),PySem.W.mg_none_of X G (Hd.no_of (Hd.at_all H3 11 rfl)),PySem.W.mg_none_of X G (Hd.no_of (Hd.at_all H3 12 rfl)),PySem.W.mg_none_of X G (Hd.no_of (Hd.at_all H3 13 rfl)),PySem.W.mg_none_of X G (Hd.no_of (Hd.at_all H3 14 rfl))⟩
  have AP_0_1 : Hd.tabP K0 "hops_walk" ≠ Hd.tabP K0 "hops_fence" := Hd.apart_ne H7 (i := 0) (j := 1) rfl rfl (by decide)
  have BF : BltF K mg := by
    subst eK
    exact Hd.blt_of X G H6
  refine law_fd h hfa fun base => ?_
  have F_is_whole := fn_is_whole (P := P) (w := w) (base := base) D_is_whole T
  have F_common_divisor := fn_common_divisor (P := P) (w := w) (base := base) D_common_divisor T
  have F_is_ratio := fn_is_ratio (P := P) (w := w) (base := base) D_is_ratio F_is_whole F_common_divisor T
  have F_last_of := fn_last_of (P := P) (w := w) (base := base) D_last_of T
  have F_row_to := fn_row_to (P := P) (w := w) (base := base) D_row_to T
  have F_seek := fn_seek (P := P) (w := w) (base := base) D_seek F_row_to T
  have F_sign_of := fn_sign_of (P := P) (w := w) (base := base) D_sign_of
  have F_leash_order := fn_leash_order (P := P) (w := w) (base := base) D_leash_order F_sign_of
  have F_look_at_square := fn_look_at_square (P := P) (w := w) (base := base) D_look_at_square O_NoSquare F_is_ratio
  have F_hops_aside := fn_hops_aside (P := P) (w := w) (base := base) D_hops_aside
  have F_begins_fence := fn_begins_fence (P := P) (w := w) (base := base) D_begins_fence
  have F_ends_fence := fn_ends_fence (P := P) (w := w) (base := base) D_ends_fence
  have F_pair_at_corner := fn_pair_at_corner (P := P) (w := w) (base := base) D_pair_at_corner
  have F_far_corners := fn_far_corners (P := P) (w := w) (base := base) D_far_corners F_leash_order T
  have F_steps_on := fn_steps_on (P := P) (w := w) (base := base) D_steps_on
  have F_steps_aside := fn_steps_aside (P := P) (w := w) (base := base) D_steps_aside F_hops_aside F_pair_at_corner
  have F_hops_walk := fn_hops_walk (P := P) (w := w) (base := base) D_hops_walk BF F_seek F_steps_on F_pair_at_corner T
  have F_hops_fence := fn_hops_fence (P := P) (w := w) (base := base) D_hops_fence BF F_seek F_steps_aside F_begins_fence F_ends_fence F_pair_at_corner T
  have F_go_hops := fn_go_hops (P := P) (w := w) (base := base) D_go_hops F_look_at_square F_last_of F_far_corners F_hops_walk F_hops_fence
  have F_law_cell_at := fn_law_cell_at (P := P) (w := w) (base := base) D_law_cell_at T
  have F_law_begun := fn_law_begun (P := P) (w := w) (base := base) D_law_begun T
  have F_law_take := fn_law_take (P := P) (w := w) (base := base) D_law_take
  have F_law_wide := fn_law_wide (P := P) (w := w) (base := base) D_law_wide F_law_take T
  have F_law_drawn_line := fn_law_drawn_line (P := P) (w := w) (base := base) D_law_drawn_line F_law_take F_law_wide T
  have F_law_moved := fn_law_moved (P := P) (w := w) (base := base) D_law_moved F_law_take T
  have F_law_drawn_other := fn_law_drawn_other (P := P) (w := w) (base := base) D_law_drawn_other F_law_take F_law_moved F_law_drawn_line T
  have F_law_lines := fn_law_lines (P := P) (w := w) (base := base) D_law_lines F_law_cell_at F_law_begun F_law_drawn_line F_law_drawn_other
  have F_law_divisor := fn_law_divisor (P := P) (w := w) (base := base) D_law_divisor T
  have F_law_ratio := fn_law_ratio (P := P) (w := w) (base := base) D_law_ratio F_law_divisor
  have F_law_below := fn_law_below (P := P) (w := w) (base := base) D_law_below
  have F_law_apart := fn_law_apart (P := P) (w := w) (base := base) D_law_apart
  have F_law_drawn_leash := fn_law_drawn_leash (P := P) (w := w) (base := base) D_law_drawn_leash F_law_apart F_law_take F_law_wide F_law_ratio T
  have F_law_folded := fn_law_folded (P := P) (w := w) (base := base) D_law_folded T
  have F_law_whole := fn_law_whole (P := P) (w := w) (base := base) D_law_whole T
  have F_law_is_ratio := fn_law_is_ratio (P := P) (w := w) (base := base) D_law_is_ratio F_law_whole F_law_divisor T
  have F_law_is_place := fn_law_is_place (P := P) (w := w) (base := base) D_law_is_place F_law_is_ratio T
  have F_law_near := fn_law_near (P := P) (w := w) (base := base) D_law_near F_law_below
  have F_law_are_pairs := fn_law_are_pairs (P := P) (w := w) (base := base) D_law_are_pairs F_law_is_place T
  have F_law_goes := fn_law_goes (P := P) (w := w) (base := base) D_law_goes F_law_below F_law_near
  have F_law_is_walk := fn_law_is_walk (P := P) (w := w) (base := base) D_law_is_walk F_law_are_pairs F_law_goes T
  have F_law_back := fn_law_back (P := P) (w := w) (base := base) D_law_back F_law_below
  have F_law_steps := fn_law_steps (P := P) (w := w) (base := base) D_law_steps F_law_back F_law_near F_law_below
  have F_law_is_fence := fn_law_is_fence (P := P) (w := w) (base := base) D_law_is_fence F_law_are_pairs F_law_steps T
  have F_law_point_at := fn_law_point_at (P := P) (w := w) (base := base) D_law_point_at
  have F_law_square_of := fn_law_square_of (P := P) (w := w) (base := base) D_law_square_of F_law_point_at F_law_ratio
  have F_law_walk_square := fn_law_walk_square (P := P) (w := w) (base := base) D_law_walk_square F_law_square_of F_law_below
  have F_law_shown := fn_law_shown (P := P) (w := w) (base := base) D_law_shown F_law_is_walk F_law_below F_law_walk_square F_law_is_fence F_law_square_of T
  exact fn_law D_law AP_0_1 F_law_lines F_law_folded F_law_begun F_law_drawn_leash F_go_hops F_law_shown T
end K35
end
open PySem PySem.W PyProof.Rows
set_option maxRecDepth 100000 in
set_option maxHeartbeats 0 in
theorem PySem.Challenge.cw_oneleash_k35_whole_papers_of_hops_holds : PySem.Challenge.rw_oneleash_k35_whole_papers_of_hops.Holds := by
  w_on; o_law
  refine holds_open (q := K35.hView) (loose := K35.hLoose) (Xt := fun _ => true) (XP := fun _ _ => True) (Yf := Hook.obs (Hd.hookT K35.hFacts K35.hGood)) (Ya := Hook.val (Hd.hookT K35.hFacts K35.hGood)) (YP := Hook.says (Hd.hookT K35.hFacts K35.hGood)) (N := 100000) K35.hLeft (Hook.of _) (Hook.keeps _) (fun _ _ => trivial) (fun _ _ _ _ _ => trivial) (by rfl) (by rfl) (by rfl) (fun _ _ => recFacts_nil rfl) (by rfl) (by first | assumption | decide +kernel) (by decide +kernel) ⟨rfl,rfl,rfl,rfl,rfl,by decide +kernel⟩ ?hw ?hc
  case hw => w_witness2
  exact Hd.law_walkT (names := K35.hTabs) (l := PySem.Challenge.rw_oneleash_k35_whole_papers_of_hops) (k := 9) ⟨rfl,by decide,by decide,rfl⟩ rfl rfl (fun K FK => K35.hTabOk FK) fun K FK w mg fa h KX G hmg => K35.all_of rfl FK KX G hmg
