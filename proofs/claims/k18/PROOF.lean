import PyProof.Rows.All
import Wide.All
import OpenK.AllK
import Wide.FinOn
import Lean
import PyProof.EqAt
import PyProof.EqKinds
import PyProof.TupleCall
import PyProof.ExcArgsOwn
import KE.KTryMore
import PyProof.NsDelKeeps
import PyProof.ConsumeWalk
import PyProof.ZipIter
import PyProof.WalksEnum
import PyProof.EnumMake
import PyProof.NeKinds
import PyProof.CompMap
import KE.KRevIter
import PyProof.ListRange
import KE.KSliceW
import PyProof.ReprRoads
import PyProof.CallStr
import PySem.Challenge.RW_oneleash_k18_what_is_none
section
set_option Elab.async false
set_option linter.all false
set_option maxRecDepth 100000
namespace L2
open PySem PySem.Spec PyProof.Rows
abbrev Key := Sum Int Str
def keyIs : Key → Value → Bool
  | .inl k,v => Value.isInt k v
  | .inr x,v => Value.isStrOf x v
def keyH (w : World) : Key → Int
  | .inl k => hashInt k
  | .inr x => hashStr w x
theorem keyIs_shape : ∀ {k : Key} {v : Value},keyIs k v = true → (∃ i t,k = Sum.inl i ∧ v = Value.int i t) ∨ (∃ x t,k = Sum.inr x ∧ v = Value.str x t)
  | .inl i,v,h => by
    obtain ⟨t,e⟩ := Value.isInt_shape (k := i) (v := v) h
    exact .inl ⟨i,t,rfl,e⟩
  | .inr x,v,h => by
    obtain ⟨t,e⟩ := Value.isStrOf_shape (x := x) (v := v) h
    exact .inr ⟨x,t,rfl,e⟩
theorem keyIs_int (i : Int) (t : Tok) : keyIs (.inl i) (.int i t) = true := by simp [keyIs,Value.isInt]
theorem keyIs_str (x : Str) (t : Tok) : keyIs (.inr x) (.str x t) = true := by simp [keyIs,Value.isStrOf]
theorem key_ll (a b : Int) : decide ((Sum.inl a : Key) = Sum.inl b) = (a == b) := by
  by_cases e : a = b
  · subst e; simp
  · have h : ¬ (Sum.inl a : Key) = Sum.inl b := fun q => e (Sum.inl.inj q)
    rw [decide_eq_false h]
    exact (beq_eq_false_iff_ne.mpr e).symm
theorem key_rr (a b : Str) : decide ((Sum.inr a : Key) = Sum.inr b) = decide (a = b) := by
  by_cases e : a = b
  · subst e; simp
  · have h : ¬ (Sum.inr a : Key) = Sum.inr b := fun q => e (Sum.inr.inj q)
    rw [decide_eq_false h,decide_eq_false e]
theorem key_lr (a : Int) (b : Str) : decide ((Sum.inl a : Key) = Sum.inr b) = false := decide_eq_false (fun q => nomatch q)
theorem key_rl (a : Str) (b : Int) : decide ((Sum.inr a : Key) = Sum.inl b) = false := decide_eq_false (fun q => nomatch q)
def mixKind (prog : Program) (w : World) : PySem.KeyKind prog w Key where
  is := keyIs
  hash := keyH w
  inj := fun v a b ha hb => by
    rcases keyIs_shape ha with ⟨i,t,rfl,rfl⟩ | ⟨x,t,rfl,rfl⟩
    · rcases keyIs_shape hb with ⟨j,u,rfl,e⟩ | ⟨y,u,rfl,e⟩
      · injection e with e1 _; rw [e1]
      · exact nomatch e
    · rcases keyIs_shape hb with ⟨j,u,rfl,e⟩ | ⟨y,u,rfl,e⟩
      · exact nomatch e
      · injection e with e1 _; rw [e1]
  byValue := fun k v h => by
    rcases keyIs_shape h with ⟨i,t,rfl,rfl⟩ | ⟨x,t,rfl,rfl⟩ <;> rfl
  pyHash := fun hv h => by
    rcases keyIs_shape hv with ⟨i,t,rfl,rfl⟩ | ⟨x,t,rfl,rfl⟩
    · exact wpAny_pyHash_int h
    · exact wpAny_pyHash_str h
  eqBool := fun hu hv h => by
    rcases keyIs_shape hu with ⟨i,t,rfl,rfl⟩ | ⟨x,t,rfl,rfl⟩
    · rcases keyIs_shape hv with ⟨j,u,rfl,rfl⟩ | ⟨y,u,rfl,rfl⟩
      · rw [key_ll] at h; exact wpAny_eqBool_int h
      · rw [key_lr] at h; exact SeqAt.EqAt.int_str i t y u _ _ _ _ h
    · rcases keyIs_shape hv with ⟨j,u,rfl,rfl⟩ | ⟨y,u,rfl,rfl⟩
      · rw [key_rl] at h; exact SeqAt.EqAt.str_int x t j u _ _ _ _ h
      · rw [key_rr] at h; exact wpAny_eqBool_str h
  «strs» := fun k x t v h => by
    rcases keyIs_shape h with ⟨i,u,rfl,e⟩ | ⟨y,u,rfl,e⟩
    · exact nomatch e
    · injection e with e1 _
      subst e1
      cases v <;> rfl
theorem mixKind_int (prog : Program) (w : World) (i : Int) (t : Tok) : (mixKind prog w).is (.inl i) (.int i t) = true := keyIs_int i t
theorem mixKind_str (prog : Program) (w : World) (x : Str) (t : Tok) : (mixKind prog w).is (.inr x) (.str x t) = true := keyIs_str x t
end L2
namespace L2
open PySem PySem.Spec PyProof.Rows
inductive V where
  | non | bl (b : Bool) | int (i : Int) | str (x : Str) | byt (b : Array UInt8) | flt (b : UInt64) | ref (a : Addr) | ty (n : String)
  deriving DecidableEq
def RelV : V → Value → Prop
  | .non,u => u = Value.none
  | .bl b,u => u = Value.bool b
  | .int i,u => ∃ t,u = Value.int i t
  | .str x,u => ∃ t,u = Value.str x t
  | .byt b,u => ∃ t,u = Value.bytes b t
  | .flt b,u => ∃ t,u = Value.float b t
  | .ref a,u => u = Value.ref a
  | .ty n,u => u = Value.type n
abbrev Vals : List V → List Value → Prop := Paired RelV
theorem Vals.length {xs : List V} {us : List Value} (r : Vals xs us) : xs.length = us.length := Paired.length r
theorem Vals.get : ∀ {xs : List V} {us : List Value} {i : Nat} {x : V},Vals xs us → xs[i]? = some x → ∃ u,us[i]? = some u ∧ RelV x u
  | _,_,_,_,.nil,e => by simp at e
  | _,_,0,_,.cons r _,e => by simp at e; subst e; exact ⟨_,rfl,r⟩
  | _,_,i + 1,x,.cons _ t,e => by
    obtain ⟨u,h1,h2⟩ := Vals.get (i := i) (x := x) t (by simpa using e)
    exact ⟨u,by simpa using h1,h2⟩
theorem Vals.set {x : V} {u : Value} (r : RelV x u) : ∀ {xs : List V} {us : List Value} (i : Nat),Vals xs us → Vals (xs.set i x) (us.set i u)
  | _,_,_,.nil => .nil
  | _,_,0,.cons _ t => .cons r t
  | _,_,i + 1,.cons q t => .cons q (Vals.set r i t)
theorem Vals.append : ∀ {xs ys : List V} {us ws : List Value},Vals xs us → Vals ys ws → Vals (xs ++ ys) (us ++ ws)
  | _,_,_,_,.nil,s => s
  | _,_,_,_,.cons r t,s => .cons r (Vals.append t s)
theorem Vals.take : ∀ {xs : List V} {us : List Value} (n : Nat),Vals xs us → Vals (xs.take n) (us.take n)
  | _,_,0,_ => .nil
  | _,_,_ + 1,.nil => .nil
  | _,_,n + 1,.cons r t => .cons r (Vals.take n t)
theorem Vals.drop : ∀ {xs : List V} {us : List Value} (n : Nat),Vals xs us → Vals (xs.drop n) (us.drop n)
  | _,_,0,r => r
  | _,_,_ + 1,.nil => .nil
  | _,_,n + 1,.cons _ t => Vals.drop n t
def RelO : Option V → Option Value → Prop
  | some v,some u => RelV v u
  | none,none => True
  | _,_ => False
def KV {κ : Type} : List (κ × V) → List (κ × Value) → Prop := Paired fun (p : κ × V) (q : κ × Value) => p.1 = q.1 ∧ RelV p.2 q.2
def kV : Key → V
  | .inl i => .int i
  | .inr x => .str x
inductive HO where
  /-- a list -/
  | lst (xs : List V)
  /-- a tuple (never changes) -/
  | tup (xs : List V)
  /-- a dict whose keys are ints and texts; one whose keys are tuples of ints and texts (the empty one is both) -/
  | dK (kvs : List (Key × V)) | dT (kvs : List (List Key × V))
  /-- a set of ints: its members,its size -/
  | set (S : Int → Bool) (n : Nat)
  /-- an instance of the class at C,its dict at dx,its attributes -/
  | ins (C dx : Addr) (fs : List (Str × V))
  /-- the dict of the instance at x -/
  | own (x : Addr)
  /-- the dict of an exception -/
  | xd (fs : List (Str × V))
  /-- a bound method,f of x -/
  | met (f x : Addr)
  /-- a range object lo,lo + 1,.. below hi -/
  | rng (lo hi : Int)
  /-- a thing that is known to the object (the script; a dict while a loop walks it): read,never written while it is so -/
  | frz (o : Obj) (u : HO)
  /-- a code object's table -/
  | tbl (ps : Array Value)
  /-- any other thing,by what is true of its one object (a def of one's own: SetO a S n := HO.ext fun h => ..) -/
  | ext (φ : Heap → Prop)
abbrev Hp := Addr → Option HO
def upd (H : Hp) (a : Addr) (o : HO) : Hp := fun b => if b = a then some o else H b
theorem upd_same {H : Hp} {a : Addr} {o : HO} : upd H a o a = some o := by unfold upd; rw [if_pos rfl]
theorem upd_ne {H : Hp} {a b : Addr} {o : HO} (h : b ≠ a) : upd H a o b = H b := by unfold upd; rw [if_neg h]
theorem upd_upd {H : Hp} {a : Addr} {o u : HO} : upd (upd H a o) a u = upd H a u := by
  funext b; unfold upd; split <;> rfl
theorem ne_of {H : Hp} {a b : Addr} {o u : HO} (h : H a = some o) (h' : H b = some u) (d : o ≠ u) : a ≠ b := by
  intro e; subst e; rw [h] at h'; exact d (Option.some.inj h')
theorem ne_of_none {H : Hp} {a b : Addr} {o : HO} (h : H a = some o) (h' : H b = none) : a ≠ b := by
  intro e; subst e; rw [h] at h'; cases h'
section
variable (P : Program) (w : World)
def ObjOk (H : Hp) (h : Heap) (a : Addr) : HO → Prop
  | .lst xs => xs.length ≤ sizeLine ∧ ∃ (its : List Value) (n : Nat),Vals xs its ∧ h.get? a = some { cls := .type "list",data := .seq its.toArray n }
  | .tup xs => xs.length ≤ sizeLine ∧ ∃ its : List Value,Vals xs its ∧ IsTup h a its.toArray
  | .dK kvs => kvs.length ≤ sizeLine ∧ (a == sysModules) = false ∧ ∃ vs,KV kvs vs ∧ h.DictOf (mixKind P w) a vs
  | .dT kvs => kvs.length ≤ sizeLine ∧ (a == sysModules) = false ∧ ∃ xs : List (List Key × Addr × Value),
      Paired (fun (p : List Key × V) (q : List Key × Addr × Value) => p.1 = q.1 ∧ H q.2.1 = some (.tup (p.1.map kV)) ∧ RelV p.2 q.2.2) kvs xs ∧
      ∃ o es ep,h.get? a = some o ∧ o.ExactDict ∧ o.data = .dict es ep ∧ es.toList = xs.map (entryOfKey (tupleKind (mixKind P w))) ∧ (xs.map (·.1)).Nodup
  | .set S n => h.SetOf (intKind P w) a S n
  | .ins C dx fs => H dx = some (.own a) ∧ fs.length ≤ 1000 ∧ dx ≠ a ∧ h.get? a = some (PySem.W.instObj C dx) ∧
      ∃ mA,h.Ns1 dx mA ∧ (∀ f,RelO (fs.lookup f) (mA f)) ∧ PySem.Within mA (fs.map (·.1))
  | .own _ => ∃ o,h.get? a = some o
  | .xd fs => ∃ mA,h.Ns1 a mA ∧ ∀ f,RelO (fs.lookup f) (mA f)
  | .rng lo hi => ∃ t u v,h.get? a = some { cls := .type "range",data := .fields #[.int lo t,.int hi u,.int 1 v] }
  | .frz o u => h.get? a = some o ∧ ObjOk H h a u
  | .tbl ps => h.get? a = some { cls := .none,data := .fields ps }
  | .met f x => h.get? a = some (PySem.W.methodObj (.ref f) (.ref x))
  | .ext φ => φ h ∧ (∃ o,h.get? a = some o) ∧ ∀ h1 h2 : Heap,φ h1 → (∀ o,h1.get? a = some o → h2.get? a = some o) → φ h2
def HOk (H : Hp) (h : Heap) : Prop := ∀ a o,H a = some o → ObjOk P w H h a o
end
section
variable {P : Program} {w : World} {H H' : Hp} {h h' : Heap} {a : Addr} {o : HO}
theorem ObjOk.lt (x : ObjOk P w H h a o) : a < h.objs.size := by
  cases o with
  | lst xs => obtain ⟨_,_,_,_,e⟩ := x; exact Heap.lt_size e
  | tup xs => obtain ⟨_,_,_,p⟩ := x; exact p.lt
  | dK kvs => obtain ⟨_,_,_,_,o,_,_,e,_⟩ := x; exact Heap.lt_size e
  | dT kvs => obtain ⟨_,_,_,_,o,_,_,e,_⟩ := x; exact Heap.lt_size e
  | set S n => obtain ⟨o,_,_,_,e,_⟩ := x; exact Heap.lt_size e
  | ins C dx fs => obtain ⟨_,_,_,e,_⟩ := x; exact Heap.lt_size e
  | own y => obtain ⟨_,e⟩ := x; exact Heap.lt_size e
  | xd fs => obtain ⟨_,⟨_,_,_,e,_⟩,_⟩ := x; exact Heap.lt_size e
  | rng lo hi => obtain ⟨_,_,_,e⟩ := x; exact Heap.lt_size e
  | frz ob u => obtain ⟨e,_⟩ := x; exact Heap.lt_size e
  | tbl ps => exact Heap.lt_size (show h.get? a = some _ from x)
  | met f y => exact Heap.lt_size (show h.get? a = some _ from x)
  | ext φ => obtain ⟨_,⟨_,e⟩,_⟩ := x; exact Heap.lt_size e
theorem Paired.mapP {α β : Type} {F G : α → β → Prop} : ∀ {l₁ : List α} {l₂ : List β},Paired F l₁ l₂ → (∀ a b,F a b → G a b) → Paired G l₁ l₂
  | _,_,.nil,_ => .nil
  | _,_,.cons r t,f => .cons (f _ _ r) (Paired.mapP t f)
theorem ObjOk.stay (x : ObjOk P w H h a o) (k : ∀ b u,(b = a ∨ H b = some (.own a)) → h.get? b = some u → h'.get? b = some u)
    (ho : ∀ b,H b = some (.own a) → H' b = some (.own a)) (ht : ∀ b xs,H b = some (.tup xs) → H' b = some (.tup xs)) : ObjOk P w H' h' a o := by
  induction o with
  | lst xs => obtain ⟨z,its,n,r,e⟩ := x; exact ⟨z,its,n,r,k _ _ (.inl rfl) e⟩
  | tup xs => obtain ⟨z,its,r,ob,e,c⟩ := x; exact ⟨z,its,r,ob,k _ _ (.inl rfl) e,c⟩
  | dK kvs => obtain ⟨z,y,vs,r,ob,es,ep,e,c⟩ := x; exact ⟨z,y,vs,r,ob,es,ep,k _ _ (.inl rfl) e,c⟩
  | dT kvs =>
    obtain ⟨z,y,xs,r,ob,es,ep,e,c⟩ := x
    exact ⟨z,y,xs,Paired.mapP r fun p q z => ⟨z.1,ht _ _ z.2.1,z.2.2⟩,ob,es,ep,k _ _ (.inl rfl) e,c⟩
  | set S n => obtain ⟨ob,es,ep,t,e,c⟩ := x; exact ⟨ob,es,ep,t,k _ _ (.inl rfl) e,c⟩
  | ins C dx fs =>
    obtain ⟨d,z,ne,e,mA,⟨od,es,ep,e2,c⟩,r⟩ := x
    exact ⟨ho _ d,z,ne,k _ _ (.inl rfl) e,mA,⟨od,es,ep,k _ _ (.inr d) e2,c⟩,r⟩
  | own y => obtain ⟨ob,e⟩ := x; exact ⟨ob,k _ _ (.inl rfl) e⟩
  | xd fs => obtain ⟨mA,⟨od,es,ep,e,c⟩,r⟩ := x; exact ⟨mA,⟨od,es,ep,k _ _ (.inl rfl) e,c⟩,r⟩
  | rng lo hi => obtain ⟨t,u,v,e⟩ := x; exact ⟨t,u,v,k _ _ (.inl rfl) e⟩
  | frz ob u ih => obtain ⟨e,q⟩ := x; exact ⟨k _ _ (.inl rfl) e,ih q⟩
  | tbl ps =>
    have e : h.get? a = some { cls := .none,data := .fields ps } := x
    show h'.get? a = some { cls := .none,data := .fields ps }
    exact k a _ (.inl rfl) e
  | met f y =>
    have e : h.get? a = some (PySem.W.methodObj (.ref f) (.ref y)) := x
    show h'.get? a = some (PySem.W.methodObj (.ref f) (.ref y))
    exact k a _ (.inl rfl) e
  | ext φ => obtain ⟨p,⟨o,e⟩,st⟩ := x; exact ⟨st _ _ p fun o q => k _ _ (.inl rfl) q,⟨o,k _ _ (.inl rfl) e⟩,st⟩
theorem HOk.lt (x : HOk P w H h) (e : H a = some o) : a < h.objs.size := (x a o e).lt
theorem HOk.fresh (x : HOk P w H h) (e : h.objs.size ≤ a) : H a = none := by
  cases q : H a with
  | none => rfl
  | some u => exact absurd (Nat.lt_of_lt_of_le (x.lt q) e) (Nat.lt_irrefl _)
theorem HOk.kept (x : HOk P w H h) (k : ∀ b u,h.get? b = some u → h'.get? b = some u) : HOk P w H h' := fun a o e =>
  (x a o e).stay (fun b u _ q => k b u q) (fun _ q => q) fun _ _ q => q
theorem HOk.laid (x : HOk P w H h) (k : ∀ b u,h.get? b = some u → h'.get? b = some u) (hp : h.objs.size ≤ a) (new : ObjOk P w (upd H a o) h' a o) : HOk P w (upd H a o) h' := fun b u e => by
  have hn := x.fresh hp
  by_cases hb : b = a
  · subst hb; rw [upd_same] at e; cases e; exact new
  · rw [upd_ne hb] at e
    exact (x b u e).stay (fun c v _ q => k c v q) (fun c q => by rw [upd_ne (ne_of_none q hn)]; exact q) fun c xs q => by rw [upd_ne (ne_of_none q hn)]; exact q
end
def Rd (H : Hp) (a : Addr) (u : HO) : Prop := H a = some u ∨ ∃ o,H a = some (.frz o u)
theorem Rd.ok {P : Program} {w : World} {H : Hp} {h : Heap} {a : Addr} {u : HO} (r : Rd H a u) (x : HOk P w H h) : ObjOk P w H h a u := by
  rcases r with r | ⟨o,r⟩
  · exact x a u r
  · obtain ⟨_,q⟩ := x a _ r
    exact q
def Mut : Option HO → Prop
  | some (.lst _) => True
  | some (.dK _) => True
  | some (.dT _) => True
  | some (.set _ _) => True
  | some (.ins _ _ _) => True
  | some (.ext _) => True
  | _ => False
section
variable {P : Program} {w : World} {H : Hp} {h h' : Heap} {x e : Addr} {o' : HO}
theorem HOk.write (ok : HOk P w H h) (mu : Mut (H x)) (he : e = x ∨ H e = some (.own x)) (k : ∀ b u,b ≠ e → h.get? b = some u → h'.get? b = some u) (heo : ∃ u,h'.get? e = some u)
    (new : ObjOk P w (upd H x o') h' x o') : HOk P w (upd H x o') h' := fun b u q => by
  have nown : ∀ c y,H c = some (.own y) → c ≠ x := fun c y r z => by subst z; rw [r] at mu; exact mu
  have ntup : ∀ c xs,H c = some (.tup xs) → c ≠ x := fun c xs r z => by subst z; rw [r] at mu; exact mu
  by_cases hb : b = x
  · subst hb; rw [upd_same] at q; cases q; exact new
  · rw [upd_ne hb] at q
    by_cases hbe : b = e
    · have q' : H b = some (.own x) := by
        rcases he with z | z
        · exact absurd (hbe.trans z) hb
        · rw [hbe]; exact z
      rw [q] at q'; cases q'
      obtain ⟨v,hv⟩ := heo
      exact ⟨v,by rw [hbe]; exact hv⟩
    · refine (ok b u q).stay (fun c v hc r => k c v ?_ r) (fun c r => by rw [upd_ne (nown c b r)]; exact r) fun c xs r => by rw [upd_ne (ntup c xs r)]; exact r
      rcases hc with rfl | hc
      · exact hbe
      · rintro rfl
        rcases he with z | z
        · exact nown c b hc z
        · rw [hc] at z; cases z; exact hb rfl
end
structure Un (fs ex : List Addr) (H H' : Hp) (h h' : Heap) : Prop where
  keep : ∀ b o,h.get? b = some o → H b = none → b ∉ fs → b ∉ ex → h'.get? b = some o
  slot : ∀ b o,h.get? b = some o → H b = none → b ∈ fs → b ∉ ex → ∃ sl,h'.get? b = some { o with slots := sl }
  free : ∀ b o,h.get? b = some o → H b = none → b ∉ ex → H' b = none
  there : ∀ b o,h.get? b = some o → b ∉ ex → ∃ o',h'.get? b = some o'
  tups : ∀ b xs,H b = some (.tup xs) → H' b = some (.tup xs)
  frzs : ∀ b o u,H b = some (.frz o u) → H' b = some (.frz o u)
  tbls : ∀ b ps,H b = some (.tbl ps) → ∃ more,H' b = some (.tbl (ps ++ more))
section
variable {fs fs' ex ex' : List Addr} {H H1 H2 : Hp} {h h1 h2 h' : Heap} {a x e : Addr} {o : HO}
theorem Un.any (u : Un fs ex H H1 h h1) {b : Addr} {ob : Obj} (q : h.get? b = some ob) (n : H b = none) (hx : b ∉ ex) : ∃ sl,h1.get? b = some { ob with slots := sl } := by
  by_cases hb : b ∈ fs
  · exact u.slot b ob q n hb hx
  · exact ⟨ob.slots,u.keep b ob q n hb hx⟩
theorem Un.kept (k : ∀ b u,h.get? b = some u → h'.get? b = some u) : Un fs ex H H h h' :=
  ⟨fun b ob q _ _ _ => k b ob q,fun b ob q _ _ _ => ⟨ob.slots,k b ob q⟩,fun _ _ _ n _ => n,fun b ob q _ => ⟨ob,k b ob q⟩,fun _ _ q => q,fun _ _ _ q => q,fun _ ps q => ⟨#[],by rw [q]; simp⟩⟩
theorem Un.refl : Un fs ex H H h h := Un.kept fun _ _ q => q
theorem Un.laid (k : ∀ b u,h.get? b = some u → h'.get? b = some u) (hp : h.objs.size ≤ a) (hn : H a = none) : Un fs ex H (upd H a o) h h' where
  keep := fun b u q _ _ _ => k b u q
  slot := fun b u q _ _ _ => ⟨u.slots,k b u q⟩
  free := fun b u q n _ => by rw [upd_ne (Nat.ne_of_lt (Nat.lt_of_lt_of_le (Heap.lt_size q) hp))]; exact n
  there := fun b u q _ => ⟨u,k b u q⟩
  tups := fun b xs q => by rw [upd_ne (ne_of_none q hn)]; exact q
  frzs := fun b u xs q => by rw [upd_ne (ne_of_none q hn)]; exact q
  tbls := fun b ps q => ⟨#[],by rw [upd_ne (ne_of_none q hn),q]; simp⟩
theorem Un.write (mu : Mut (H x)) (he : e = x ∨ H e = some (.own x)) (k : ∀ b u,b ≠ e → h.get? b = some u → h'.get? b = some u) (heo : ∃ u,h'.get? e = some u) : Un fs ex H (upd H x o) h h' := by
  have hx : ∀ b,H b = none → b ≠ x := fun b n z => by subst z; rw [n] at mu; exact mu
  have hb : ∀ b,H b = none → b ≠ e := fun b n z => by
    subst z
    rcases he with r | r
    · exact hx b n r
    · rw [n] at r; cases r
  have hm : ∀ b u,H b = some u → ¬ Mut (some u) → b ≠ x := fun b u q nm z => by subst z; rw [q] at mu; exact nm mu
  refine ⟨fun b u q n _ _ => k b u (hb b n) q,fun b u q n _ _ => ⟨u.slots,k b u (hb b n) q⟩,fun b u q n _ => by rw [upd_ne (hx b n)]; exact n,fun b u q _ => ?_,
    fun b xs q => by rw [upd_ne (hm b _ q fun z => z)]; exact q,fun b u xs q => by rw [upd_ne (hm b _ q fun z => z)]; exact q,fun b ps q => ⟨#[],by rw [upd_ne (hm b _ q fun z => z),q]; simp⟩⟩
  by_cases hbe : b = e
  · subst hbe; exact heo
  · exact ⟨u,k b u hbe q⟩
end
def trk (h : Heap) (H : Hp) : List Addr := (List.range h.objs.size).filter fun a => (H a).isSome
def hidT (h : Heap) (H : Hp) : Heap := PySem.W.hideAll h (trk h H)
theorem hidT_size (h : Heap) (H : Hp) : (hidT h H).objs.size = h.objs.size := PySem.W.hideAll_size _ _
theorem hidT_get {h : Heap} {H : Hp} {b : Addr} {o : Obj} (e : h.get? b = some o) (n : H b = none) : (hidT h H).get? b = some o :=
  PySem.W.hideAll_get _ e fun hm => by
    have q : (H b).isSome = true := (List.mem_filter.mp hm).2
    rw [n] at q; simp at q
theorem of_hidT {h : Heap} {H : Hp} {b : Addr} {o : Obj} (e : (hidT h H).get? b = some o) : h.get? b = some o ∧ H b = none := by
  have e' : h.get? b = some o := PySem.W.of_hideAll (trk h H) e
  refine ⟨e',?_⟩
  cases q : H b with
  | none => rfl
  | some x =>
    have hm : b ∈ trk h H := List.mem_filter.mpr ⟨List.mem_range.mpr (Heap.lt_size e'),by simp [q]⟩
    have z : (hidT h H).get? b = none := PySem.W.hideAll_none (trk h H) hm
    rw [z] at e; cases e
end L2
namespace L2
open PySem PySem.Spec PyProof.Rows
structure Mod (K : PySem.W.Frag) (mg : Str → Option Value) (base : Heap) : Prop where
  kin : K.In base
  glob : base.Ns mainGlobals mg
  blt : ∃ mb,base.Ns builtinsNs mb ∧ ∀ x : Str,x ≠ "__name__" → mb x = bootBuiltins x
  nolimit : base.NoLimit
structure Cx where
  prog : Program
  w : World
  K : PySem.W.Frag
  mg : Str → Option Value
  base : Heap
  A : Around
  N : List Str
  s₀ : Shared
  H₀ : Hp
  env : Env
  outer : List Env
  stack : List Env
  ex : List Addr
  fn : Str → Bool
  calm : Bool
  pn : List (Addr × Obj)
  xe : Value → Shared → Prop
def frs (l : List Env) : List Addr := l.filterMap (·.frame)
abbrev Cx.fs (X : Cx) : List Addr := frs X.outer
def Vis (sc : Scope) (x : Str) : Prop := sc.names.lookup x = some .local ∨ sc.names.lookup x = some .cell ∨ sc.names.lookup x = some .free
def Loc (sc : Scope) (x : Str) : Prop := sc.names.lookup x = some .local ∨ sc.names.lookup x = some .cell
def Look (env : Env) (h : Heap) (m : Str → Option Value) (x : Str) (u : Value) : Prop :=
  (env.kindOf x = some .local ∧ m x = some u) ∨ ((env.kindOf x = some .cell ∨ env.kindOf x = some .free) ∧ ∃ c,env.cells.lookup x = some c ∧ h.IsCell c (some u))
structure Cx.Ok (X : Cx) : Prop where
  mod : Mod X.K X.mg X.base
  kind : X.env.scope.kind = .function
  glob : X.env.globals = mainGlobals
  blt : X.env.builtins = builtinsNs
  above : X.s₀.heap.objs.size ≤ X.env.locals
  inj : ∀ x y c,X.env.cells.lookup x = some c → X.env.cells.lookup y = some c → x = y
  has : ∀ x,(X.env.kindOf x = some .cell ∨ X.env.kindOf x = some .free) → ∃ c,X.env.cells.lookup x = some c
  cab : ∀ x c,X.fn x = true → X.env.cells.lookup x = some c → X.s₀.heap.objs.size ≤ c
  hd : X.calm = true → X.A.handled = none
  frames : X.A.frames = some X.stack
  stk : X.stack = X.outer ∨ (X.stack = X.env :: X.outer ∧ X.env.frame = some X.env.locals)
  exf : ∀ b ∈ X.ex,b ≠ X.env.locals ∧ ∀ x c,X.env.cells.lookup x = some c → c ≠ b
  bs : ∀ b o,X.base.get? b = some o → X.s₀.heap.get? b = some o ∧ X.H₀ b = none
  bsz : X.base.objs.size ≤ X.s₀.heap.objs.size
  noex : ∀ b o,X.base.get? b = some o → b ∉ X.ex
  exfs : ∀ b ∈ X.ex,b ∉ X.fs
  funs : X.s₀.heap.FunFrames X.base X.outer
  frf : ∀ b ∈ X.fs,X.H₀ b = none
structure Inv (X : Cx) (pins : List (Addr × Obj)) (σ : List (Option V)) (H : Hp) (s : Shared) : Prop where
  ok : X.Ok
  os : s.os = X.s₀.os
  bare : AllBare s.gens
  base : Un X.fs X.ex X.H₀ H X.s₀.heap s.heap
  loc : ∃ m,s.heap.Ns X.env.locals m ∧ ∀ (i : Nat) (x : Str) (v : V),X.N[i]? = some x → σ[i]? = some (some v) → Vis X.env.scope x → ∃ u,RelV v u ∧ Look X.env s.heap m x u
  cell : ∀ x c,X.env.cells.lookup x = some c → ∃ v,s.heap.IsCell c v
  free : H X.env.locals = none
  freeC : ∀ x c,X.env.cells.lookup x = some c → H c = none
  pin : ∀ p ∈ X.pn ++ pins,s.heap.get? p.1 = some p.2 ∧ H p.1 = none ∧ p.1 ≠ X.env.locals ∧ p.1 ∉ X.fs ∧ ∀ v,p.2.data ≠ .cell v
  hok : HOk X.prog X.w H s.heap
  len : σ.length = X.N.length
section
variable {X : Cx} {pins : List (Addr × Obj)} {σ : List (Option V)} {H H' : Hp} {s : Shared} {h' : Heap}
theorem Cx.Ok.nofr (ok : X.Ok) {b : Addr} {o : Obj} (e : X.base.get? b = some o) : b ∉ X.fs := fun hb => by
  have := (ok.funs.mem hb).1
  rw [e] at this; cases this
theorem Inv.bs (I : Inv X pins σ H s) : ∀ b o,X.base.get? b = some o → s.heap.get? b = some o ∧ H b = none := fun b o e =>
  ⟨I.base.keep b o (I.ok.bs b o e).1 (I.ok.bs b o e).2 (I.ok.nofr e) (I.ok.noex b o e),I.base.free b o (I.ok.bs b o e).1 (I.ok.bs b o e).2 (I.ok.noex b o e)⟩
theorem Inv.bk (I : Inv X pins σ H s) : ∀ b o,X.base.get? b = some o → s.heap.get? b = some o := fun b o e => (I.bs b o e).1
theorem Inv.mod (I : Inv X pins σ H s) : Mod X.K X.mg X.base := I.ok.mod
theorem Inv.kIn (I : Inv X pins σ H s) : X.K.In s.heap := I.ok.mod.kin.keeps I.bk
theorem Inv.lt (I : Inv X pins σ H s) : X.env.locals < s.heap.objs.size := let ⟨_,hn,_⟩ := I.loc; hn.lt
theorem Inv.sz (I : Inv X pins σ H s) : X.s₀.heap.objs.size ≤ s.heap.objs.size := Nat.le_trans I.ok.above (Nat.le_of_lt I.lt)
theorem Inv.nofs (I : Inv X pins σ H s) {a : Addr} (h : s.heap.objs.size ≤ a) : a ∉ X.fs := fun hb => by
  obtain ⟨_,o,ho,_⟩ := I.ok.funs.mem hb
  exact absurd (Nat.lt_of_lt_of_le (Heap.lt_size ho) (Nat.le_trans I.sz h)) (Nat.lt_irrefl _)
theorem Inv.cne (I : Inv X pins σ H s) : ∀ x c,X.env.cells.lookup x = some c → c ≠ X.env.locals := fun x c e z => by
  obtain ⟨v,o,ho,hd⟩ := I.cell x c e
  obtain ⟨m,⟨o',es,ep,ho',hd',_⟩,_⟩ := I.loc
  rw [z,ho'] at ho; cases ho; rw [hd'] at hd; cases hd
theorem Inv.funs (I : Inv X pins σ H s) : s.heap.FunFrames X.base X.outer := by
  have all : ∀ (l : List Env),(∀ b ∈ frs l,b ∈ X.fs) → X.s₀.heap.FunFrames X.base l → s.heap.FunFrames X.base l := by
    intro l
    induction l with
    | nil => intro _ _; trivial
    | cons env r ih =>
      intro hs hl
      obtain ⟨hk,⟨L,o,hf,hn,ho,hd⟩,hr⟩ := hl
      have hL : L ∈ X.fs := hs L (by unfold frs; rw [List.filterMap_cons,hf]; exact List.mem_cons_self)
      obtain ⟨sl,e⟩ := I.base.slot L o ho (I.ok.frf L hL) hL fun z => I.ok.exfs L z hL
      exact ⟨hk,⟨L,_,hf,hn,e,hd⟩,ih (fun b hb => hs b (by unfold frs; rw [List.filterMap_cons,hf]; exact List.mem_cons_of_mem _ hb)) hr⟩
  exact all X.outer (fun _ hb => hb) I.ok.funs
theorem Inv.stack (I : Inv X pins σ H s) : s.heap.FunFrames X.base X.stack := by
  rcases I.ok.stk with e | ⟨e,hf⟩
  · rw [e]; exact I.funs
  · rw [e]
    obtain ⟨m,hn,_⟩ := I.loc
    refine .cons (by rw [I.ok.kind]; decide) hf hn ?_ I.funs
    exact Heap.get?_none_of_le (Nat.le_trans I.ok.bsz I.ok.above)
theorem Inv.stkSub (I : Inv X pins σ H s) : ∀ b ∈ frs X.stack,b ∈ X.env.locals :: X.fs := fun b hb => by
  rcases I.ok.stk with e | ⟨e,hf⟩
  · rw [e] at hb; exact List.mem_cons_of_mem _ hb
  · rw [e] at hb
    unfold frs at hb
    rw [List.filterMap_cons,hf] at hb
    exact hb
theorem Inv.stkFree (I : Inv X pins σ H s) : ∀ b ∈ frs X.stack,H b = none := fun b hb => by
  rcases List.mem_cons.mp (I.stkSub b hb) with e | hb
  · rw [e]; exact I.free
  · obtain ⟨_,o,ho,_⟩ := I.ok.funs.mem hb
    exact I.base.free b o ho (I.ok.frf b hb) fun z => I.ok.exfs b z hb
theorem Inv.step {g' : Array GenState} {t' : Nat} {d' : Drawn} {ch : List Addr} (I : Inv X pins σ H s)
    (hch : ∀ b ∈ ch,(b ∈ X.ex ∨ X.s₀.heap.objs.size ≤ b) ∧ b ≠ X.env.locals ∧ (∀ x c,X.env.cells.lookup x = some c → c ≠ b) ∧ ∀ p ∈ X.pn ++ pins,p.1 ≠ b)
    (keep : ∀ b o,b ≠ X.env.locals → b ∉ X.fs → b ∉ ch → s.heap.get? b = some o → H b = none → h'.get? b = some o)
    (slot : ∀ b o,b ≠ X.env.locals → b ∈ X.fs → b ∉ ch → s.heap.get? b = some o → H b = none → ∃ sl,h'.get? b = some { o with slots := sl }) (free : ∀ b o,b ∉ ch → s.heap.get? b = some o → H b = none → H' b = none)
    (there : ∀ b o,b ∉ ch → s.heap.get? b = some o → ∃ o',h'.get? b = some o')
    (tups : ∀ b xs,H b = some (.tup xs) → H' b = some (.tup xs)) (frzs : ∀ b o u,H b = some (.frz o u) → H' b = some (.frz o u)) (tbls : ∀ b ps,H b = some (.tbl ps) → ∃ more,H' b = some (.tbl (ps ++ more)))
    (ns : ∀ m,s.heap.Ns X.env.locals m → h'.Ns X.env.locals m) (hok : HOk X.prog X.w H' h') (hg : AllBare g') :
    Inv X pins σ H' { s with heap := h',gens := g',drawn := d',toks := t' } := by
  have neL : ∀ b o,X.s₀.heap.get? b = some o → b ≠ X.env.locals := fun b o e => Nat.ne_of_lt (Nat.lt_of_lt_of_le (Heap.lt_size e) I.ok.above)
  have neC : ∀ b o,X.s₀.heap.get? b = some o → b ∉ X.ex → b ∉ ch := fun b o e hx hb => by
    rcases (hch b hb).1 with z | z
    · exact hx z
    · exact absurd (Nat.lt_of_lt_of_le (Heap.lt_size e) z) (Nat.lt_irrefl _)
  have cellK : ∀ x c,X.env.cells.lookup x = some c → ∀ v,s.heap.IsCell c v → h'.IsCell c v := fun x c e v ⟨o,ho,hd⟩ => by
    have nch : c ∉ ch := fun z => (hch c z).2.2.1 x c e rfl
    by_cases hc : c ∈ X.fs
    · obtain ⟨sl,q⟩ := slot c o (I.cne x c e) hc nch ho (I.freeC x c e)
      exact ⟨_,q,hd⟩
    · exact ⟨o,keep c o (I.cne x c e) hc nch ho (I.freeC x c e),hd⟩
  refine ⟨I.ok,I.os,hg,⟨fun b o e n hb hx => ?_,fun b o e n hb hx => ?_,fun b o e n hx => ?_,fun b o e hx => ?_,fun b xs e => tups b xs (I.base.tups b xs e),fun b o xs e => frzs b o xs (I.base.frzs b o xs e),fun b ps e => ?_⟩,?_,fun x c e => ?_,?_,fun x c e => ?_,fun p hp => ?_,hok,I.len⟩
  · exact keep b o (neL b o e) hb (neC b o e hx) (I.base.keep b o e n hb hx) (I.base.free b o e n hx)
  · obtain ⟨sl,e1⟩ := I.base.slot b o e n hb hx
    obtain ⟨sl',e2⟩ := slot b _ (neL b o e) hb (neC b o e hx) e1 (I.base.free b o e n hx)
    exact ⟨sl',e2⟩
  · obtain ⟨o',e1⟩ := I.base.there b o e hx
    exact free b o' (neC b o e hx) e1 (I.base.free b o e n hx)
  · obtain ⟨o',e1⟩ := I.base.there b o e hx
    exact there b o' (neC b o e hx) e1
  · obtain ⟨m1,e1⟩ := I.base.tbls b ps e
    obtain ⟨m2,e2⟩ := tbls b _ e1
    exact ⟨m1 ++ m2,by rw [e2,Array.append_assoc]⟩
  · obtain ⟨m,hn,hl⟩ := I.loc
    refine ⟨m,ns m hn,fun i x v e1 e2 e3 => ?_⟩
    obtain ⟨u,r,l⟩ := hl i x v e1 e2 e3
    refine ⟨u,r,?_⟩
    rcases l with l | ⟨k,c,e,z⟩
    · exact .inl l
    · exact .inr ⟨k,c,e,cellK x c e _ z⟩
  · obtain ⟨v,z⟩ := I.cell x c e
    exact ⟨v,cellK x c e v z⟩
  · obtain ⟨m,⟨o,_,_,ho,_⟩,_⟩ := I.loc
    exact free _ o (fun z => (hch _ z).2.1 rfl) ho I.free
  · obtain ⟨v,o,ho,hd⟩ := I.cell x c e
    exact free c o (fun z => (hch c z).2.2.1 x c e rfl) ho (I.freeC x c e)
  · obtain ⟨e,n,ne,nf,d⟩ := I.pin p hp
    have nch : p.1 ∉ ch := fun z => (hch p.1 z).2.2.2 p hp rfl
    exact ⟨keep p.1 p.2 ne nf nch e n,free p.1 p.2 nch e n,ne,nf,d⟩
theorem Inv.un {t' : Nat} (I : Inv X pins σ H s) (u : Un X.fs [] H H' s.heap h') (hok : HOk X.prog X.w H' h') : Inv X pins σ H' { s with heap := h',toks := t' } := by
  obtain ⟨m,⟨o,es,ep,ho,r⟩,_⟩ := id I.loc
  obtain ⟨sl,hL⟩ := u.any ho I.free (by simp)
  exact I.step (g' := s.gens) (d' := s.drawn) (ch := []) (fun _ z => nomatch z) (fun b o _ hb _ e n => u.keep b o e n hb (by simp)) (fun b o _ hb _ e n => u.slot b o e n hb (by simp)) (fun b o _ e n => u.free b o e n (by simp)) (fun b o _ e => u.there b o e (by simp)) u.tups u.frzs u.tbls (fun m' hm => by
    obtain ⟨o',es',ep',ho',r'⟩ := hm
    rw [ho] at ho'; cases ho'
    exact ⟨_,es',ep',hL,r'⟩) hok I.bare
theorem Inv.call {g' : Array GenState} {t' : Nat} {d' : Drawn} {ch : List Addr} (I : Inv X pins σ H s) (u : Un (frs X.stack) ch H H' s.heap h') (hok : HOk X.prog X.w H' h') (hg : AllBare g')
    (hch : ∀ b ∈ ch,(b ∈ X.ex ∨ X.s₀.heap.objs.size ≤ b) ∧ b ≠ X.env.locals ∧ (∀ x c,X.env.cells.lookup x = some c → c ≠ b) ∧ ∀ p ∈ X.pn ++ pins,p.1 ≠ b) :
    Inv X pins σ H' { s with heap := h',gens := g',drawn := d',toks := t' } := by
  obtain ⟨m,⟨o,es,ep,ho,r⟩,_⟩ := id I.loc
  obtain ⟨sl,hL⟩ := u.any ho I.free fun z => (hch _ z).2.1 rfl
  exact I.step (ch := ch) hch (fun b o hL hb hc e n => u.keep b o e n (fun z => (List.mem_cons.mp (I.stkSub b z)).elim hL hb) hc) (fun b o _ _ hc e n => u.any e n hc) (fun b o hc e n => u.free b o e n hc) (fun b o hc e => u.there b o e hc) u.tups u.frzs u.tbls (fun m' hm => by
    obtain ⟨o',es',ep',ho',r'⟩ := hm
    rw [ho] at ho'; cases ho'
    exact ⟨_,es',ep',hL,r'⟩) hok hg
theorem Inv.turned {t' : Nat} {it : Addr} (I : Inv X pins σ H s) (k : ∀ b o,b ≠ it → s.heap.get? b = some o → h'.get? b = some o) (hn : H it = none) (hL : it ≠ X.env.locals)
    (h1 : it ∈ X.ex ∨ X.s₀.heap.objs.size ≤ it) (h2 : ∀ x c,X.env.cells.lookup x = some c → c ≠ it) (h3 : ∀ p ∈ X.pn ++ pins,p.1 ≠ it) : Inv X pins σ H { s with heap := h',toks := t' } := by
  have nit : ∀ b u,H b = some u → b ≠ it := fun b u e z => by rw [z,hn] at e; cases e
  refine I.step (g' := s.gens) (d' := s.drawn) (ch := [it]) (fun b hb => ?_) (fun b o _ _ hc e _ => k b o (fun z => hc (by simp [z])) e) (fun b o _ _ hc e _ => ⟨o.slots,k b o (fun z => hc (by simp [z])) e⟩) (fun _ _ _ _ n => n)
    (fun b o hc e => ⟨o,k b o (fun z => hc (by simp [z])) e⟩) (fun _ _ e => e) (fun _ _ _ e => e) (fun b ps e => ⟨#[],by rw [e]; simp⟩) (fun m hm => ?_) (fun b u e => ?_) I.bare
  · have e : b = it := by simpa using hb
    subst e
    exact ⟨h1,hL,h2,h3⟩
  · obtain ⟨o,es,ep,ho,r⟩ := hm
    exact ⟨o,es,ep,k _ o (Ne.symm hL) ho,r⟩
  · refine (I.hok b u e).stay (fun c v hc q => k c v ?_ q) (fun _ q => q) fun _ _ q => q
    rcases hc with z | z
    · rw [z]; exact nit b u e
    · exact nit c _ z
theorem Inv.tok (I : Inv X pins σ H s) (t : Nat) : Inv X pins σ H { s with toks := t } := I.un (h' := s.heap) (t' := t) Un.refl I.hok
theorem Inv.kept {t' : Nat} (I : Inv X pins σ H s) (k : ∀ b u,s.heap.get? b = some u → h'.get? b = some u) : Inv X pins σ H { s with heap := h',toks := t' } := I.un (Un.kept k) (I.hok.kept k)
theorem Inv.laid {a : Addr} {o : HO} {t' : Nat} (I : Inv X pins σ H s) (k : ∀ b u,s.heap.get? b = some u → h'.get? b = some u) (hp : s.heap.objs.size ≤ a) (new : ObjOk X.prog X.w (upd H a o) h' a o) :
    Inv X pins σ (upd H a o) { s with heap := h',toks := t' } := I.un (Un.laid k hp (I.hok.fresh hp)) (I.hok.laid k hp new)
theorem Inv.write {x e : Addr} {o : HO} {t' : Nat} (I : Inv X pins σ H s) (mu : Mut (H x)) (he : e = x ∨ H e = some (.own x)) (k : ∀ b u,b ≠ e → s.heap.get? b = some u → h'.get? b = some u) (heo : ∃ u,h'.get? e = some u)
    (new : ObjOk X.prog X.w (upd H x o) h' x o) : Inv X pins σ (upd H x o) { s with heap := h',toks := t' } := I.un (Un.write mu he k heo) (I.hok.write mu he k heo new)
theorem Inv.pins_of {pins' : List (Addr × Obj)} (I : Inv X pins σ H s) (h : ∀ p ∈ pins',s.heap.get? p.1 = some p.2 ∧ H p.1 = none ∧ p.1 ≠ X.env.locals ∧ p.1 ∉ X.fs ∧ ∀ v,p.2.data ≠ .cell v) : Inv X pins' σ H s :=
  ⟨I.ok,I.os,I.bare,I.base,I.loc,I.cell,I.free,I.freeC,fun p hp => (List.mem_append.mp hp).elim (fun z => I.pin p (List.mem_append_left _ z)) (h p),I.hok,I.len⟩
theorem nodup_ix {N : List Str} (hN : N.Nodup) {i j : Nat} {x : Str} (a : N[i]? = some x) (b : N[j]? = some x) : i = j := by
  obtain ⟨h1,e1⟩ := List.getElem?_eq_some_iff.mp a
  obtain ⟨h2,e2⟩ := List.getElem?_eq_some_iff.mp b
  exact (List.getElem_inj hN).mp (e1.trans e2.symm)
theorem store_ok2 {M : Model} {A : Around} {E : Value → Shared → Prop} {i : Nat} {x : Str} {v : V} {u : Value} {Q : Unit → Shared → Prop} (I : Inv X pins σ H s) (hN : X.N.Nodup) (hi : X.N[i]? = some x) (hx : Loc X.env.scope x) (r : RelV v u)
    (h : ∀ s',Inv X pins (σ.set i (some v)) H s' → (∃ a,Heap.SameBut a s.heap s'.heap ∧ (a = X.env.locals ∨ X.env.cells.lookup x = some a)) → Q () s') (hf : X.fn x = true ∨ X.env.scope.names.lookup x = some .local := by first | exact .inl rfl | exact .inr rfl | assumption) : wpAny M A (storeName X.env x u) Q E s := by
  obtain ⟨m,hn,hl⟩ := id I.loc
  have hcls : (X.env.scope.kind == .class || (X.env.scope.kind == .module && X.env.locals != X.env.globals)) = false := by rw [I.ok.kind]; rfl
  have hiσ : i < σ.length := by rw [I.len]; exact (List.getElem?_eq_some_iff.mp hi).1
  have cne := I.cne
  have tracked : ∀ {a : Addr} {h' : Heap},(∃ o,s.heap.get? a = some o ∧ H a = none) → Heap.SameBut a s.heap h' → HOk X.prog X.w H h' := fun {a h'} ha hs b ob e => by
    obtain ⟨_,_,hfree⟩ := ha
    refine (I.hok b ob e).stay (fun c w' hc q => (hs.2 c ?_).trans q) (fun _ q => q) fun _ _ q => q
    rintro rfl
    rcases hc with rfl | hc
    · rw [hfree] at e; cases e
    · rw [hfree] at hc; cases hc
  rcases hx with hk | hk
  · refine wpAny_storeName_local hk hn (fun h' hn' hs => ?_) hcls
    obtain ⟨oL,_,_,hoL,_⟩ := id hn
    refine h _ ⟨I.ok,I.os,I.bare,⟨fun b o e n hb hx => ?_,fun b o e n hb hx => ?_,I.base.free,fun b o e hx => ?_,I.base.tups,I.base.frzs,I.base.tbls⟩,⟨_,hn',fun j y v' e1 e2 e3 => ?_⟩,fun y c e => ?_,I.free,I.freeC,fun p hp => ?_,tracked ⟨oL,hoL,I.free⟩ hs,by simpa using I.len⟩ ⟨_,hs,.inl rfl⟩
    · exact (hs.2 b (Nat.ne_of_lt (Nat.lt_of_lt_of_le (Heap.lt_size e) I.ok.above))).trans (I.base.keep b o e n hb hx)
    · obtain ⟨sl,e1⟩ := I.base.slot b o e n hb hx
      exact ⟨sl,(hs.2 b (Nat.ne_of_lt (Nat.lt_of_lt_of_le (Heap.lt_size e) I.ok.above))).trans e1⟩
    · obtain ⟨o',e1⟩ := I.base.there b o e hx
      exact ⟨o',(hs.2 b (Nat.ne_of_lt (Nat.lt_of_lt_of_le (Heap.lt_size e) I.ok.above))).trans e1⟩
    · by_cases hj : j = i
      · subst hj
        rw [hi] at e1; cases e1
        rw [List.getElem?_set_self hiσ] at e2
        cases e2
        exact ⟨u,r,.inl ⟨hk,by simp⟩⟩
      · rw [List.getElem?_set_ne (Ne.symm hj)] at e2
        obtain ⟨u',r',q⟩ := hl j y v' e1 e2 e3
        refine ⟨u',r',?_⟩
        rcases q with ⟨k,e⟩ | ⟨k,c,e,z⟩
        · refine .inl ⟨k,?_⟩
          have : y ≠ x := fun e => hj (nodup_ix hN e1 (e ▸ hi))
          simp [this,e]
        · exact .inr ⟨k,c,e,z.sameBut hs (cne y c e)⟩
    · obtain ⟨w',z⟩ := I.cell y c e
      exact ⟨w',z.sameBut hs (cne y c e)⟩
    · obtain ⟨e,n,ne,nf,d⟩ := I.pin p hp
      exact ⟨(hs.2 p.1 ne).trans e,n,ne,nf,d⟩
  · have hfn : X.fn x = true := by
      rcases hf with z | z
      · exact z
      · rw [z] at hk; cases hk
    obtain ⟨c,hc⟩ := I.ok.has x (.inl hk)
    obtain ⟨w',z⟩ := I.cell x c hc
    refine wpAny_storeName_cell I.ok.kind hk hc z (fun h' hc' hs => ?_)
    obtain ⟨oc,hoc,hocd⟩ := id z
    refine h { s with heap := h' } ⟨I.ok,I.os,I.bare,⟨fun b o e n hb hx => ?_,fun b o e n hb hx => ?_,I.base.free,fun b o e hx => ?_,I.base.tups,I.base.frzs,I.base.tbls⟩,⟨m,hn.sameBut hs (Ne.symm (cne x c hc)),fun j y v' e1 e2 e3 => ?_⟩,fun y c' e => ?_,I.free,I.freeC,fun p hp => ?_,tracked ⟨oc,hoc,I.freeC x c hc⟩ hs,by simpa using I.len⟩ ⟨c,hs,.inr hc⟩
    · exact (hs.2 b (Nat.ne_of_lt (Nat.lt_of_lt_of_le (Heap.lt_size e) (I.ok.cab x c hfn hc)))).trans (I.base.keep b o e n hb hx)
    · obtain ⟨sl,e1⟩ := I.base.slot b o e n hb hx
      exact ⟨sl,(hs.2 b (Nat.ne_of_lt (Nat.lt_of_lt_of_le (Heap.lt_size e) (I.ok.cab x c hfn hc)))).trans e1⟩
    · obtain ⟨o',e1⟩ := I.base.there b o e hx
      exact ⟨o',(hs.2 b (Nat.ne_of_lt (Nat.lt_of_lt_of_le (Heap.lt_size e) (I.ok.cab x c hfn hc)))).trans e1⟩
    · by_cases hj : j = i
      · subst hj
        rw [hi] at e1; cases e1
        rw [List.getElem?_set_self hiσ] at e2
        cases e2
        exact ⟨u,r,.inr ⟨.inl hk,c,hc,hc'⟩⟩
      · rw [List.getElem?_set_ne (Ne.symm hj)] at e2
        obtain ⟨u',r',q⟩ := hl j y v' e1 e2 e3
        refine ⟨u',r',?_⟩
        rcases q with q | ⟨k,c',e,z'⟩
        · exact .inl q
        · refine .inr ⟨k,c',e,z'.sameBut hs ?_⟩
          rintro rfl
          exact hj (nodup_ix hN e1 (I.ok.inj _ _ _ e hc ▸ hi))
    · by_cases hcc : c' = c
      · subst hcc; exact ⟨_,hc'⟩
      · obtain ⟨w2,z2⟩ := I.cell y c' e
        exact ⟨w2,z2.sameBut hs hcc⟩
    · obtain ⟨e,n,ne,nf,d⟩ := I.pin p hp
      refine ⟨(hs.2 p.1 ?_).trans e,n,ne,nf,d⟩
      intro q
      rw [q,hoc] at e
      have q' : oc = p.2 := Option.some.inj e
      exact d w' (by rw [← q']; exact hocd)
theorem store_ok {M : Model} {A : Around} {E : Value → Shared → Prop} {i : Nat} {x : Str} {v : V} {u : Value} {Q : Unit → Shared → Prop} (I : Inv X pins σ H s) (hN : X.N.Nodup) (hi : X.N[i]? = some x) (hx : Loc X.env.scope x) (r : RelV v u)
    (h : ∀ s',Inv X pins (σ.set i (some v)) H s' → Q () s') (hf : X.fn x = true ∨ X.env.scope.names.lookup x = some .local := by first | exact .inl rfl | exact .inr rfl | assumption) : wpAny M A (storeName X.env x u) Q E s :=
  store_ok2 I hN hi hx r (fun s' I' _ => h s' I') hf
theorem Inv.call' {s' : Shared} {ch : List Addr} (I : Inv X pins σ H s) (ho : s'.os = s.os) (u : Un (frs X.stack) ch H H' s.heap s'.heap) (hok : HOk X.prog X.w H' s'.heap) (hg : AllBare s'.gens)
    (hch : ∀ b ∈ ch,(b ∈ X.ex ∨ X.s₀.heap.objs.size ≤ b) ∧ b ≠ X.env.locals ∧ (∀ x c,X.env.cells.lookup x = some c → c ≠ b) ∧ ∀ p ∈ X.pn ++ pins,p.1 ≠ b) : Inv X pins σ H' s' := by
  obtain ⟨h',g',d',t',o'⟩ := s'
  have e : o' = s.os := ho
  subst e
  exact I.call (g' := g') (t' := t') (d' := d') u hok hg hch
end
abbrev XK := Value → Option Addr → Hp → Prop
abbrev St := List (Option V)
abbrev VK := V → Hp → Prop
abbrev TE := St → Hp → VK → Prop
abbrev TT := St → Hp → (Bool → Hp → Prop) → Prop
abbrev TA := St → Hp → (List V → Hp → Prop) → Prop
structure Ends where
  nx : St → Hp → Prop
  rt : VK
  bk : St → Hp → Prop := fun _ _ => False
  ct : St → Hp → Prop := fun _ _ => False
abbrev TS := Ends → St → Hp → Prop
def EP (X : Cx) (pins : List (Addr × Obj)) (σ : St) (Q : VK) (u : Value) (s' : Shared) : Prop := ∃ v H',Inv X pins σ H' s' ∧ RelV v u ∧ Q v H'
def TP (X : Cx) (pins : List (Addr × Obj)) (σ : St) (Q : Bool → Hp → Prop) (b : Bool) (s' : Shared) : Prop := ∃ H',Inv X pins σ H' s' ∧ Q b H'
def AP (X : Cx) (pins : List (Addr × Obj)) (σ : St) (Q : List V → Hp → Prop) (us : List Value) (s' : Shared) : Prop := ∃ vs H',Inv X pins σ H' s' ∧ Vals vs us ∧ Q vs H'
def SP (X : Cx) (pins : List (Addr × Obj)) (D : Ends) (f : Flow) (s' : Shared) : Prop :=
  match f with
  | .next => ∃ σ' H',Inv X pins σ' H' s' ∧ D.nx σ' H'
  | .brk => ∃ σ' H',Inv X pins σ' H' s' ∧ D.bk σ' H'
  | .cont => ∃ σ' H',Inv X pins σ' H' s' ∧ D.ct σ' H'
  | .ret u => ∃ v σ' H',Inv X pins σ' H' s' ∧ RelV v u ∧ D.rt v H'
def PE (X : Cx) (e : Expr) (t : TE) : Prop :=
  ∀ (pins : List (Addr × Obj)) (s : Shared) (σ : St) (H : Hp) (Q : VK),Inv X pins σ H s → t σ H Q → wpAny (model X.prog X.w) X.A (eval e X.env) (EP X pins σ Q) X.xe s
def PT (X : Cx) (e : Expr) (t : TT) : Prop :=
  ∀ (pins : List (Addr × Obj)) (s : Shared) (σ : St) (H : Hp) (Q : Bool → Hp → Prop),Inv X pins σ H s → t σ H Q → wpAny (model X.prog X.w) X.A (isTrue e X.env (eval e X.env)) (TP X pins σ Q) X.xe s
def PW (X : Cx) (e : Expr) (t : TT) : Prop :=
  ∀ (whole : Sem Value) (pins : List (Addr × Obj)) (s : Shared) (σ : St) (H : Hp) (Q : Bool → Hp → Prop),Inv X pins σ H s → t σ H Q → wpAny (model X.prog X.w) X.A (isTrue e X.env whole) (TP X pins σ Q) X.xe s
theorem PW.pt {X : Cx} {e : Expr} {t : TT} (h : PW X e t) : PT X e t := h _
def PA (X : Cx) (es : List Expr) (t : TA) : Prop :=
  ∀ (pos : Pos) (pins : List (Addr × Obj)) (s : Shared) (σ : St) (H : Hp) (Q : List V → Hp → Prop),Inv X pins σ H s → t σ H Q → wpAny (model X.prog X.w) X.A (spliced (backTo pos (starEach es X.env))) (AP X pins σ Q) X.xe s
def PS (X : Cx) (st : Stmt) (t : TS) : Prop :=
  ∀ (pins : List (Addr × Obj)) (s : Shared) (σ : St) (H : Hp) (D : Ends),Inv X pins σ H s → t D σ H → wpAny (model X.prog X.w) X.A (exec st X.env) (SP X pins D) X.xe s
def PSs (X : Cx) (st : List Stmt) (t : TS) : Prop :=
  ∀ (pins : List (Addr × Obj)) (s : Shared) (σ : St) (H : Hp) (D : Ends),Inv X pins σ H s → t D σ H → wpAny (model X.prog X.w) X.A (execs st X.env) (SP X pins D) X.xe s
theorem thn {α : Type} {t : Sem α} {Q Q' : α → Shared → Prop} {M : Model} {A : Around} {E : Value → Shared → Prop} {s : Shared} (h : wpAny M A t Q E s) (hQ : ∀ a s,Q a s → Q' a s) : wpAny M A t Q' E s := wpAny_mono h hQ fun _ _ x => x
end L2
namespace L2
open PySem PySem.Spec PyProof.Rows
section
variable {X : Cx}
def tVar (i : Nat) : TE := fun σ H Q => ∃ v,σ[i]? = some (some v) ∧ Q v H
def tC (v : V) : TE := fun _ H Q => Q v H
theorem pe_var {i : Nat} {x : Str} {pos : Pos} (hN : X.N[i]? = some x) (hv : Vis X.env.scope x) (hd : (x == ("__debug__" : Str)) = false := by decide) (hcd : (x == ("__classdict__" : Str)) = false := by decide) : PE X (.Name x pos) (tVar i) := by
  intro pins s σ H Q I h
  obtain ⟨v,e,h⟩ := h
  obtain ⟨m,hn,hl⟩ := I.loc
  obtain ⟨u,r,l⟩ := hl i x v hN e hv
  have fin : EP X pins σ Q u s := ⟨v,H,I,r,h⟩
  rcases l with ⟨hk,hm⟩ | ⟨hk,c,hc,hcell⟩
  · exact wpAny_Name (wpAny_loadName_local I.ok.kind hk hn hm fin) hd
  · rcases hk with hk | hk
    · exact wpAny_Name (wpAny_loadName_cell I.ok.kind hk hc hcell fin) hd
    · exact wpAny_Name (wpAny_loadName_free I.ok.kind hk hc hcell fin hcd) hd
theorem pe_int {i j pos} : PE X (.Constant (.int i) j pos) (tC (.int i)) := fun _ _ _ H _ I h => wpAny_Constant_int ⟨.int i,H,I.tok _,⟨_,rfl⟩,h⟩
theorem pe_bl {b j pos} : PE X (.Constant (.bool b) j pos) (tC (.bl b)) := fun _ _ _ H _ I h => Constant_bool ⟨.bl b,H,I,rfl,h⟩
theorem pe_non {j pos} : PE X (.Constant .none j pos) (tC .non) := fun _ _ _ H _ I h => Constant_none ⟨.non,H,I,rfl,h⟩
theorem pe_str {x j pos} : PE X (.Constant (.str x) j pos) (tC (.str x)) := fun _ _ _ H _ I h => Calls.Constant_str ⟨.str x,H,I.tok _,⟨_,rfl⟩,h⟩
def Gl (X : Cx) (x : Str) : Prop := X.env.kindOf x = some .globalImplicit
theorem ld_glob {E : Value → Shared → Prop} {pins : List (Addr × Obj)} {s : Shared} {σ : St} {H : Hp} {x : Str} {u : Value} {pos : Pos} {Q : Value → Shared → Prop} (I : Inv X pins σ H s) (hg : Gl X x) (hm : X.mg x = some u) (h : Q u s)
    (hd : (x == ("__debug__" : Str)) = false := by decide) : wpAny (model X.prog X.w) X.A (eval (.Name x pos) X.env) Q E s :=
  Calls.Name_function_global I.ok.kind hg (Calls.loadGlobal_global (by rw [I.ok.glob]; exact I.mod.glob.keeps I.bk) hm h) hd
theorem ld_blt {E : Value → Shared → Prop} {pins : List (Addr × Obj)} {s : Shared} {σ : St} {H : Hp} {x : Str} {u : Value} {pos : Pos} {Q : Value → Shared → Prop} (I : Inv X pins σ H s) (hg : Gl X x) (hm : X.mg x = none) (hv : bootBuiltins x = some u) (h : Q u s)
    (hn : x ≠ "__name__" := by decide) (hd : (x == ("__debug__" : Str)) = false := by decide) : wpAny (model X.prog X.w) X.A (eval (.Name x pos) X.env) Q E s := by
  obtain ⟨mb,h1,h2⟩ := I.mod.blt
  exact Calls.Name_function_global I.ok.kind hg (Calls.loadGlobal_builtin (by rw [I.ok.glob]; exact I.mod.glob.keeps I.bk) hm (by rw [I.ok.blt]; exact h1.keeps I.bk) ((h2 x hn).trans hv) h) hd
theorem pe_glob {x : Str} {v : V} {u : Value} {pos : Pos} (hg : Gl X x) (hm : X.mg x = some u) (r : RelV v u) (hd : (x == ("__debug__" : Str)) = false := by decide) : PE X (.Name x pos) (tC v) :=
  fun _ _ _ H _ I h => ld_glob I hg hm ⟨v,H,I,r,h⟩ hd
theorem pe_bltn {x : Str} {v : V} {u : Value} {pos : Pos} (hg : Gl X x) (hm : X.mg x = none) (hv : bootBuiltins x = some u) (r : RelV v u) (hn : x ≠ "__name__" := by decide) (hd : (x == ("__debug__" : Str)) = false := by decide) : PE X (.Name x pos) (tC v) :=
  fun _ _ _ H _ I h => ld_blt I hg hm hv ⟨v,H,I,r,h⟩ hn hd
variable {a b : Expr} {ta tb : TE} {pos : Pos}
def tB (t : TE) : TT := fun σ H Q => t σ H fun x H1 => ∃ c,x = .bl c ∧ Q c H1
theorem pt_val {e : Expr} {t : TE} (h : PE X e t) (he : ∀ whole,isTrue e X.env whole = (do let v ← whole; standAt e.pos; holding [v] (truthy v)) := by intro _; rfl) : PT X e (tB t) := by
  intro pins s σ H Q I hw
  refine isTrue_plain (thn (h pins s σ H _ I hw) fun v s1 ⟨x,H1,I1,r1,q1⟩ => ?_) (he _)
  obtain ⟨d,rfl,q⟩ := q1
  cases r1
  exact wpAny_truthy_bool ⟨H1,I1,q⟩
variable {tA tB' : TT} {rest : List Expr}
def tAnd (t u : TT) : TT := fun σ H Q => t σ H fun c H1 => if c = true then u σ H1 Q else Q false H1
def tOr (t u : TT) : TT := fun σ H Q => t σ H fun c H1 => if c = true then Q true H1 else u σ H1 Q
def tNot (t : TT) : TT := fun σ H Q => t σ H fun c H1 => Q (!c) H1
theorem pw_and1 (ha : PT X a tA) : PW X (.BoolOp .And [a] pos) tA := by
  intro wh pins s σ H Q I h
  refine isTrue_and (thn (ha pins s σ H Q I h) fun c s1 e => ?_)
  cases c with
  | true => exact isTrue_and_nil e
  | false => exact e
theorem pw_or1 (ha : PT X a tA) : PW X (.BoolOp .Or [a] pos) tA := by
  intro wh pins s σ H Q I h
  refine isTrue_or (thn (ha pins s σ H Q I h) fun c s1 e => ?_)
  cases c with
  | false => exact isTrue_or_nil e
  | true => exact e
theorem pw_and (ha : PT X a tA) (hb : PW X (.BoolOp .And (b :: rest) pos) tB') : PW X (.BoolOp .And (a :: b :: rest) pos) (tAnd tA tB') := by
  intro wh pins s σ H Q I h
  refine isTrue_and (thn (ha pins s σ H _ I h) fun c s1 ⟨H1,I1,q1⟩ => ?_)
  cases c with
  | true => exact hb wh pins s1 σ H1 Q I1 q1
  | false => exact ⟨H1,I1,q1⟩
theorem pw_or (ha : PT X a tA) (hb : PW X (.BoolOp .Or (b :: rest) pos) tB') : PW X (.BoolOp .Or (a :: b :: rest) pos) (tOr tA tB') := by
  intro wh pins s σ H Q I h
  refine isTrue_or (thn (ha pins s σ H _ I h) fun c s1 ⟨H1,I1,q1⟩ => ?_)
  cases c with
  | true => exact ⟨H1,I1,q1⟩
  | false => exact hb wh pins s1 σ H1 Q I1 q1
theorem pt_not (ha : PT X a tA) : PT X (.UnaryOp .Not a pos) (tNot tA) := by
  intro pins s σ H Q I h
  exact isTrue_not (ha pins s σ H (fun c H1 => Q (!c) H1) I h)
def tAndV (ta tb : TE) : TE := fun σ H Q => ta σ H fun x H1 => ∃ c,x = .bl c ∧ if c = true then tb σ H1 Q else Q (.bl false) H1
def tNotV (ta : TE) : TE := fun σ H Q => ta σ H fun x H1 => ∃ c,x = .bl c ∧ Q (.bl (!c)) H1
theorem pe_one {op} {t : TE} (h : PE X a t) : PE X (.BoolOp op [a] pos) t := fun pins s σ H Q I hw => BoolOp_one (h pins s σ H Q I hw)
theorem pe_and (ha : PE X a ta) (hb : PE X (.BoolOp .And (b :: rest) pos) tb) : PE X (.BoolOp .And (a :: b :: rest) pos) (tAndV ta tb) := by
  intro pins s σ H Q I h
  refine BoolOp_and (thn (ha pins s σ H _ I h) fun v s1 ⟨x,H1,I1,r1,q1⟩ => ?_)
  obtain ⟨c,rfl,q1⟩ := q1
  cases r1
  refine wpAny_truthy_bool ?_
  cases c with
  | true => exact hb pins s1 σ H1 Q I1 q1
  | false => exact ⟨.bl false,H1,I1,rfl,q1⟩
theorem pe_not (ha : PE X a ta) : PE X (.UnaryOp .Not a pos) (tNotV ta) := by
  intro pins s σ H Q I h
  refine UnaryOp_ (thn (ha pins s σ H _ I h) fun v s1 ⟨x,H1,I1,r1,q1⟩ => ?_)
  obtain ⟨c,rfl,q1⟩ := q1
  cases r1
  exact not_of (wpAny_truthy_bool ⟨.bl (!c),H1,I1,rfl,q1⟩)
end
end L2
namespace L2
open PySem PySem.Spec PyProof.Rows
def SqL (K : PySem.W.Frag) (H : Hp) (a : Addr) (xs : List V) : Prop :=
  Rd H a (.lst xs) ∨
    ∃ (o : Obj) (its : Array Value) (n : Nat),K.lookup a = some o ∧ o.cls = .type "list" ∧ o.dict = none ∧ o.data = .seq its n ∧ its.size ≤ sizeLine ∧ Vals xs its.toList
def SqT (K : PySem.W.Frag) (H : Hp) (a : Addr) (xs : List V) : Prop :=
  Rd H a (.tup xs) ∨
    ∃ (o : Obj) (its : Array Value) (n : Nat),K.lookup a = some o ∧ o.cls = .type "tuple" ∧ o.data = .seq its n ∧ its.size ≤ sizeLine ∧ Vals xs its.toList
def absV : Value → Option V
  | .none => some .non
  | .bool b => some (.bl b)
  | .int i _ => some (.int i)
  | .str x _ => some (.str x)
  | .bytes b _ => some (.byt b)
  | .float b _ => some (.flt b)
  | .ref a => some (.ref a)
  | .type n => some (.ty n)
  | _ => none
theorem RelV.abs {x : V} {u : Value} (r : RelV x u) : absV u = some x := by
  cases x with
  | non => cases r; rfl
  | bl _ => cases r; rfl
  | int _ => obtain ⟨t,rfl⟩ := r; rfl
  | str _ => obtain ⟨t,rfl⟩ := r; rfl
  | byt _ => obtain ⟨t,rfl⟩ := r; rfl
  | flt _ => obtain ⟨t,rfl⟩ := r; rfl
  | ref _ => cases r; rfl
  | ty _ => cases r; rfl
theorem RelV.inj {x y : V} {u : Value} (r : RelV x u) (q : RelV y u) : x = y := Option.some.inj (r.abs.symm.trans q.abs)
theorem Vals.inj : ∀ {xs ys : List V} {us : List Value},Vals xs us → Vals ys us → xs = ys
  | _,_,_,.nil,.nil => rfl
  | _,_,_,.cons r t,.cons r' t' => by rw [r.inj r',Vals.inj t t']
section
variable {X : Cx} {pins : List (Addr × Obj)} {σ : St} {H : Hp} {s : Shared} {a : Addr} {xs ys : List V}
theorem SqL.of {K : PySem.W.Frag} (h : H a = some (.lst xs)) : SqL K H a xs := .inl (.inl h)
theorem SqT.of {K : PySem.W.Frag} (h : H a = some (.tup xs)) : SqT K H a xs := .inl (.inl h)
theorem Inv.list (I : Inv X pins σ H s) (h : SqL X.K H a xs) : ∃ its : List Value,Vals xs its ∧ PlainL s.heap a its.toArray ∧ xs.length ≤ sizeLine := by
  rcases h with h | ⟨o,its,n,hk,hc,hd,hs,hz,r⟩
  · obtain ⟨z,its,n,r,e⟩ := h.ok I.hok
    exact ⟨its,r,⟨_,n,e,rfl,rfl,rfl⟩,z⟩
  · refine ⟨its.toList,r,⟨o,n,I.kIn a o hk,hc,hd,by simpa using hs⟩,?_⟩
    have e := r.length
    simp only [Array.length_toList] at e
    omega
theorem Inv.tuple (I : Inv X pins σ H s) (h : SqT X.K H a xs) : ∃ its : List Value,Vals xs its ∧ IsTup s.heap a its.toArray ∧ xs.length ≤ sizeLine := by
  rcases h with h | ⟨o,its,n,hk,hc,hs,hz,r⟩
  · obtain ⟨z,its,r,p⟩ := h.ok I.hok
    exact ⟨its,r,p,z⟩
  · refine ⟨its.toList,r,⟨o,I.kIn a o hk,hc,n,by simpa using hs⟩,?_⟩
    have e := r.length
    simp only [Array.length_toList] at e
    omega
theorem Inv.list_inj (I : Inv X pins σ H s) (h : SqL X.K H a xs) (h' : SqL X.K H a ys) : xs = ys := by
  obtain ⟨its,r,⟨o,n,e,_,_,d⟩,_⟩ := I.list h
  obtain ⟨its',r',⟨o',n',e',_,_,d'⟩,_⟩ := I.list h'
  rw [e] at e'; cases e'
  rw [d] at d'
  injection d' with d1 _
  have : its = its' := by simpa using congrArg Array.toList d1
  subst this
  exact r.inj r'
end
abbrev Cx.wish (X : Cx) (E : Value → Shared → Prop) : Cx := { X with xe := E }
abbrev Cx.nox (X : Cx) : Cx := X.wish fun _ _ => False
theorem Cx.Ok.wish {X : Cx} (ok : X.Ok) (E : Value → Shared → Prop) : (X.wish E).Ok :=
  ⟨ok.mod,ok.kind,ok.glob,ok.blt,ok.above,ok.inj,ok.has,ok.cab,ok.hd,ok.frames,ok.stk,ok.exf,ok.bs,ok.bsz,ok.noex,ok.exfs,ok.funs,ok.frf⟩
theorem Cx.Ok.unwish {X : Cx} {E : Value → Shared → Prop} (ok : (X.wish E).Ok) : X.Ok :=
  ⟨ok.mod,ok.kind,ok.glob,ok.blt,ok.above,ok.inj,ok.has,ok.cab,ok.hd,ok.frames,ok.stk,ok.exf,ok.bs,ok.bsz,ok.noex,ok.exfs,ok.funs,ok.frf⟩
section
variable {X : Cx} {pins : List (Addr × Obj)} {σ : St} {H : Hp} {s : Shared} {E : Value → Shared → Prop}
theorem Inv.wish (I : Inv X pins σ H s) (E : Value → Shared → Prop) : Inv (X.wish E) pins σ H s := ⟨I.ok.wish E,I.os,I.bare,I.base,I.loc,I.cell,I.free,I.freeC,I.pin,I.hok,I.len⟩
theorem Inv.unwish (I : Inv (X.wish E) pins σ H s) : Inv X pins σ H s := ⟨I.ok.unwish,I.os,I.bare,I.base,I.loc,I.cell,I.free,I.freeC,I.pin,I.hok,I.len⟩
theorem SP.unwish {D : Ends} {f : Flow} {s' : Shared} (h : SP (X.wish E) pins D f s') : SP X pins D f s' := by
  cases f with
  | next => obtain ⟨σ',H',I,q⟩ := h; exact ⟨σ',H',I.unwish,q⟩
  | brk => obtain ⟨σ',H',I,q⟩ := h; exact ⟨σ',H',I.unwish,q⟩
  | cont => obtain ⟨σ',H',I,q⟩ := h; exact ⟨σ',H',I.unwish,q⟩
  | ret u => obtain ⟨v,σ',H',I,r,q⟩ := h; exact ⟨v,σ',H',I.unwish,r,q⟩
theorem PSs.nox {st : List Stmt} {t : TS} (h : PSs X.nox st t) : PSs X st t := fun pins s σ H D I hw =>
  wpAny_mono (h pins s σ H D (I.wish _) hw) (fun _ _ q => q.unwish) fun _ _ z => False.elim z
end
section
variable {X : Cx} {st : Stmt} {rest : List Stmt} {t u : TS} {e : Expr} {te : TE} {pos : Pos}
def tNext : TS := fun D σ H => D.nx σ H
def tSeq (t u : TS) : TS := fun D σ H => t { D with nx := u D } σ H
theorem pss_nil : PSs X [] tNext := fun _ _ σ H _ I h => wpAny_execs_nil ⟨σ,H,I,h⟩
theorem pss_cons (h1 : PS X st t) (h2 : PSs X rest u) : PSs X (st :: rest) (tSeq t u) := by
  intro pins s σ H D I h
  refine wpAny_execs_cons (thn (h1 pins s σ H { D with nx := u D } I h) fun f s1 q => ?_)
  cases f with
  | next =>
    obtain ⟨σ',H',I',q⟩ := q
    exact h2 pins s1 σ' H' D I' q
  | ret v => exact q
  | brk => exact q
  | cont => exact q
theorem pss_one (h1 : PS X st t) : PSs X [st] t := by
  intro pins s σ H D I h
  refine wpAny_execs_cons (thn (h1 pins s σ H D I h) fun f s1 q => ?_)
  cases f with
  | next => exact wpAny_execs_nil q
  | ret v => exact q
  | brk => exact q
  | cont => exact q
theorem Inv.quiet {pins : List (Addr × Obj)} {σ : St} {H : Hp} {s : Shared} (I : Inv X pins σ H s) : interactive X.env = false := by simp [interactive,I.ok.kind]
def tDrop (te : TE) : TS := fun D σ H => te σ H fun _ H1 => D.nx σ H1
theorem ps_expr (he : PE X e te) (hs : swapsWith e none pos.line X.env = pure false := by rfl) : PS X (.Expr e pos) (tDrop te) := by
  intro pins s σ H D I h
  exact wpAny_Expr_any (thn (he pins s σ H _ I h) fun v s1 ⟨x,H1,I1,r1,q1⟩ => ⟨σ,H1,I1,q1⟩) I.quiet hs
def tRet (te : TE) : TS := fun D σ H => te σ H D.rt
theorem ps_ret (he : PE X e te) : PS X (.Return (some e) pos) (tRet te) := by
  intro pins s σ H D I h
  exact wpAny_Return_some (thn (he pins s σ H _ I h) fun v s1 ⟨x,H1,I1,r1,q1⟩ => ⟨x,σ,H1,I1,r1,q1⟩)
def tIfS (c : TT) (t u : TS) : TS := fun D σ H => c σ H fun b H1 => if b = true then t D σ H1 else u D σ H1
theorem ps_if {c : Expr} {a b : List Stmt} {tc : TT} (hc : PT X c tc) (ha : PSs X a t) (hb : PSs X b u) : PS X (.If c a b pos) (tIfS tc t u) := by
  intro pins s σ H D I h
  refine wpAny_If (thn (hc pins s σ H _ I h) fun d s1 ⟨H1,I1,q1⟩ => ?_)
  cases d with
  | true => exact ha pins s1 σ H1 D I1 q1
  | false => exact hb pins s1 σ H1 D I1 q1
end
abbrev TG := V → St → Hp → (St → Hp → Prop) → Prop
abbrev TGs := List V → St → Hp → (St → Hp → Prop) → Prop
def PG (X : Cx) (target : Expr) (t : TG) : Prop :=
  ∀ (pins : List (Addr × Obj)) (s : Shared) (σ : St) (H : Hp) (v : V) (u : Value) (Q : St → Hp → Prop),Inv X pins σ H s → RelV v u → t v σ H Q →
    wpAny (model X.prog X.w) X.A (assign target X.env u) (fun _ s' => ∃ σ' H',Inv X pins σ' H' s' ∧ Q σ' H') X.xe s
def PGs (X : Cx) (ts : List Expr) (t : TGs) : Prop :=
  ∀ (pins : List (Addr × Obj)) (s : Shared) (σ : St) (H : Hp) (vs : List V) (us : List Value) (Q : St → Hp → Prop),Inv X pins σ H s → Vals vs us → t vs σ H Q →
    wpAny (model X.prog X.w) X.A (assignInOrder ((assignEach ts X.env).map (·.2)) us) (fun _ s' => ∃ σ' H',Inv X pins σ' H' s' ∧ Q σ' H') X.xe s
abbrev TSet := V → V → V → Hp → (Hp → Prop) → Prop
def PSet (X : Cx) (t : TSet) : Prop :=
  ∀ (pins : List (Addr × Obj)) (s : Shared) (σ : St) (H : Hp) (o i v : V) (ov iv u : Value) (Q : Hp → Prop),Inv X pins σ H s → RelV o ov → RelV i iv → RelV v u → t o i v H Q →
    wpAny (model X.prog X.w) X.A (setItem ov iv u) (fun _ s' => ∃ H',Inv X pins σ H' s' ∧ Q H') X.xe s
section
variable {X : Cx} {pos : Pos}
def gName (i : Nat) : TG := fun v σ H Q => Q (σ.set i (some v)) H
theorem pg_name {i : Nat} {x : Str} (hN : X.N.Nodup) (hi : X.N[i]? = some x) (hx : Loc X.env.scope x) (hf : X.fn x = true ∨ X.env.scope.names.lookup x = some .local := by first | exact .inl rfl | exact .inr rfl | assumption) : PG X (.Name x pos) (gName i) := by
  intro pins s σ H v u Q I r h
  exact wpAny_assign_Name (store_ok I hN hi hx r (fun s' I' => ⟨_,H,I',h⟩) hf)
def gNil : TGs := fun vs σ H Q => vs = [] ∧ Q σ H
def gCons (t : TG) (u : TGs) : TGs := fun vs σ H Q => ∃ v r,vs = v :: r ∧ t v σ H fun σ' H' => u r σ' H' Q
theorem pgs_nil : PGs X [] gNil := by
  intro pins s σ H vs us Q I r h
  obtain ⟨e,h⟩ := h
  subst e
  cases r
  exact assignInOrder_nil ⟨σ,H,I,h⟩
theorem pgs_cons {e : Expr} {es : List Expr} {t : TG} {u : TGs} (h1 : PG X e t) (h2 : PGs X es u)
    (hs : (assignEach (e :: es) X.env).map (·.2) = assign e X.env :: (assignEach es X.env).map (·.2) := by rfl) : PGs X (e :: es) (gCons t u) := by
  intro pins s σ H vs us Q I r h
  obtain ⟨v,vr,e1,h⟩ := h
  subst e1
  cases r with
  | cons r rr =>
    rw [hs]
    refine assignInOrder_cons (thn (h1 pins s σ H _ _ _ I r h) fun _ s1 ⟨σ1,H1,I1,q1⟩ => ?_)
    exact h2 pins s1 σ1 H1 _ _ Q I1 rr q1
def gTup (K : PySem.W.Frag) (n : Nat) (t : TGs) : TG := fun v σ H Q => ∃ a xs,v = .ref a ∧ SqT K H a xs ∧ xs.length = n ∧ t xs σ H Q
theorem pg_tup {es : List Expr} {k : Nat} {t : TGs} {n : Nat} (hc : X.calm = true) (h : PGs X es t)
    (hn : (assignEach es X.env).length = n := by rfl) (hst : (assignEach es X.env).findIdx? (·.1) = none := by rfl) : PG X (.Tuple es k pos) (gTup X.K n t) := by
  intro pins s σ H v u Q I r hw
  obtain ⟨a,xs,e1,hq,hl,hw⟩ := hw
  subst e1
  cases r
  obtain ⟨its,rv,ht,hz⟩ := I.tuple hq
  refine assign_Tuple_tuple (I.ok.hd hc) ht (by simp [hn,← hl,rv.length]) hst fun h' hx => ?_
  have I1 : Inv X pins σ H { s with heap := h' } := I.kept (t' := s.toks) fun b o e => hx b o (Nat.ne_of_lt (Heap.lt_size e)) e
  exact h pins _ σ H xs _ Q I1 (by simpa using rv) hw
def gSub (to ti : TE) (t : TSet) : TG := fun v σ H Q => to σ H fun o H1 => ti σ H1 fun i H2 => t o i v H2 fun H3 => Q σ H3
theorem pg_sub {o i : Expr} {to ti : TE} {t : TSet} (ho : PE X o to) (hi : PE X i ti) (hs : PSet X t)
    (ha : ∀ v,assign (.Subscript o i pos) X.env v = (do
      let ov ← holding [v] (eval o X.env)
      let iv ← holding [v,ov] (eval i X.env)
      standAt pos
      holding [v,ov,iv] (setItem ov iv v)
      release [v,ov,iv] []) := by intro _; rfl) : PG X (.Subscript o i pos) (gSub to ti t) := by
  intro pins s σ H v u Q I r h
  rw [ha]
  refine wpAny_bind (wpAny_holding (thn (ho pins s σ H _ I h) fun ov s1 ⟨x,H1,I1,r1,q1⟩ => ?_))
  refine wpAny_bind (wpAny_holding (thn (hi pins s1 σ H1 _ I1 q1) fun iv s2 ⟨y,H2,I2,r2,q2⟩ => ?_))
  refine wpAny_bind (wpAny_standAt (wpAny_bind (wpAny_holding (thn (hs pins s2 σ H2 x y v ov iv u _ I2 r1 r2 r q2) fun _ s3 ⟨H3,I3,q3⟩ => ?_))))
  exact wpAny_release ⟨σ,H3,I3,q3⟩
def tAsg (te : TE) (g : TG) : TS := fun D σ H => te σ H fun x H1 => g x σ H1 D.nx
theorem ps_asg {tg e : Expr} {te : TE} {g : TG} (he : PE X e te) (hg : PG X tg g) (hs : swapsWithSole [tg] e pos.line X.env = pure false := by rfl) (hw : swappedStores [tg] e X.env = pure none := by rfl)
    (h1 : (assignEach [tg] X.env).map (·.2) = [assign tg X.env] := by rfl) : PS X (.Assign [tg] e pos) (tAsg te g) := by
  intro pins s σ H D I h
  refine wpAny_Assign_stores (thn (he pins s σ H _ I h) fun v s1 ⟨x,H1,I1,r1,q1⟩ => ?_) hs hw
  rw [h1]
  exact thn (hg pins s1 σ H1 x v _ I1 r1 q1) fun _ s2 q => q
theorem ps_set {i : Nat} {x : Str} {e : Expr} {te : TE} {pos' : Pos} (hN : X.N.Nodup) (hi : X.N[i]? = some x) (hx : Loc X.env.scope x) (he : PE X e te) (hs : swapsWith e (some (.Name x pos')) pos.line X.env = pure false := by rfl) (hf : X.fn x = true ∨ X.env.scope.names.lookup x = some .local := by first | exact .inl rfl | exact .inr rfl | assumption) :
    PS X (.Assign [.Name x pos'] e pos) (tAsg te (gName i)) := by
  intro pins s σ H D I h
  refine wpAny_Assign_Name (thn (he pins s σ H _ I h) fun v s1 ⟨y,H1,I1,r1,q1⟩ => ?_) hs
  exact store_ok I1 hN hi hx r1 (fun s2 I2 => ⟨_,H1,I2,q1⟩) hf
def tPar (i j : Nat) (ta : TA) : TS := fun D σ H => ta σ H fun vs H1 => ∃ v w,vs = [v,w] ∧ D.nx ((σ.set i (some v)).set j (some w)) H1
theorem ps_par {i j : Nat} {x y : Str} {a b : Expr} {ta : TA} {px py pt : Pos} {kt k2 pt2} (hc : X.calm = true) (hN : X.N.Nodup) (hi : X.N[i]? = some x) (hj : X.N[j]? = some y) (hij : i ≠ j)
    (hx : X.env.scope.names.lookup x = some .local) (hy : X.env.scope.names.lookup y = some .local) (ha : PA X [a,b] ta)
    (hw : swappedStores [.Tuple [.Name x px,.Name y py] kt pt] (.Tuple [a,b] k2 pt2) X.env = pure (some [x,y]))
    (hs : swapsWithSole [.Tuple [.Name x px,.Name y py] kt pt] (.Tuple [a,b] k2 pt2) pos.line X.env = pure false := by rfl) :
    PS X (.Assign [.Tuple [.Name x px,.Name y py] kt pt] (.Tuple [a,b] k2 pt2) pos) (tPar i j ta) := by
  intro pins s σ H D I h
  rw [exec_Assign_arm]
  refine wpAny_bind (wpAny_standAt ?_)
  rw [hs]
  refine wpAny_bind (wpAny_pure ?_)
  rw [if_neg (by decide)]
  refine wpAny_bind (Tuple_ (thn (ha _ pins s σ H _ I h) fun us s1 ⟨vs,H1,I1,r1,q1⟩ => ?_))
  obtain ⟨v,w,e1,q1⟩ := q1
  subst e1
  obtain ⟨u1,u2,rfl,rv,rw'⟩ : ∃ u1 u2,us = [u1,u2] ∧ RelV v u1 ∧ RelV w u2 := by
    cases r1 with
    | cons p q =>
      cases q with
      | cons p' q' =>
        cases q'
        exact ⟨_,_,rfl,p,p'⟩
  refine wpAny_newObj_type ?_ (by show 2 ≤ sizeLine; decide)
  have I2 : Inv X pins σ H1 { s1 with heap := s1.heap.push { cls := .type "tuple",data := .seq [u1,u2].toArray } } := I1.kept (t' := s1.toks) fun b o e => Heap.get?_push_of_some _ e
  rw [hw]
  refine wpAny_bind (wpAny_pure ?_)
  show wpAny (model X.prog X.w) X.A (do rule "assign.swapped-stores"; let items ← unpackItems (.ref s1.heap.objs.size) 2 none; assignInOrder [fun v => bindName X.env y v,fun v => bindName X.env x v] items.reverse; pure Flow.next) _ _ _
  refine wpAny_bind (wpAny_rule (wpAny_bind (unpackItems_tuple (items := #[u1,u2]) (I.ok.hd hc) (IsTup.new s1.heap _) fun h' hx' => ?_)))
  have I3 := I2.kept (h' := h') (t' := s1.toks) fun b o e => hx' b o (Nat.ne_of_lt (Heap.lt_size e)) e
  show wpAny _ _ (assignInOrder [fun v => bindName X.env y v,fun v => bindName X.env x v] [u2,u1] >>= fun _ => pure Flow.next) _ _ _
  refine wpAny_bind (assignInOrder_cons (wpAny_bindName (store_ok I3 hN hj (.inl hy) rw' (fun s2 I4 => ?_) (.inr hy))))
  refine assignInOrder_cons (wpAny_bindName (store_ok I4 hN hi (.inl hx) rv (fun s3 I5 => assignInOrder_nil (wpAny_pure ?_)) (.inr hx)))
  rw [List.set_comm _ _ (Ne.symm hij)] at I5
  exact ⟨_,H1,I5,q1⟩
end
section
variable {X : Cx} {pos : Pos}
def tWhile (c : TT) (tb : TS) : TS := fun D σ H => ∃ W : Nat → St → Hp → Prop,(∃ m,W m σ H) ∧ ∀ m σ H,W m σ H →
  c σ H fun b H1 => if b = true then ∃ N : St → Hp → Prop,(∀ σ' H',N σ' H' → ∃ m',m' < m ∧ W m' σ' H') ∧ tb { D with nx := N,ct := N,bk := D.nx } σ H1 else D.nx σ H1
theorem ps_while {c : Expr} {body : List Stmt} {tc : TT} {tb : TS} (hp : PassesOwn (model X.prog X.w) X.A X.env X.xe) (hc : PT X c tc) (hb : PSs X body tb) : PS X (.While c body [] pos) (tWhile tc tb) := by
  intro pins s σ H D I h
  obtain ⟨W,⟨m0,w0⟩,turn⟩ := h
  refine wpAny_While (codeAny_whileLoop (fun n s' => ∃ σ' H',Inv X pins σ' H' s' ∧ W n σ' H') ?_ m0 ⟨σ,H,I,w0⟩)
  rintro n s1 ⟨σ1,H1,I1,w1⟩
  refine wpAny_passesOwn hp (thn (hc pins s1 σ1 H1 _ I1 (turn n σ1 H1 w1)) fun b s2 ⟨H2,I2,q2⟩ => ?_)
  cases b with
  | true =>
    obtain ⟨N,hN,q2⟩ := q2
    rw [if_pos rfl]
    refine wpAny_passesOwn hp (thn (hb pins s2 σ1 H2 _ I2 q2) fun f s3 q3 => ?_)
    cases f with
    | next =>
      obtain ⟨σ3,H3,I3,n3⟩ := q3
      obtain ⟨m',hm,w3⟩ := hN σ3 H3 n3
      exact ⟨m',hm,σ3,H3,I3,w3⟩
    | cont =>
      obtain ⟨σ3,H3,I3,n3⟩ := q3
      obtain ⟨m',hm,w3⟩ := hN σ3 H3 n3
      exact ⟨m',hm,σ3,H3,I3,w3⟩
    | brk => exact q3
    | ret v => exact q3
  | false =>
    rw [if_neg Bool.false_ne_true]
    exact wpAny_execs_nil ⟨σ1,H2,I2,q2⟩
end
structure It where
  go : Nat → Hp → Prop
  yld : Nat → Hp → V → Hp → Prop
  stop : Nat → Hp → Prop
def FpOk (X : Cx) (pins : List (Addr × Obj)) (H : Hp) (b : Addr) : Prop :=
  H b = none ∧ b ≠ X.env.locals ∧ b ∉ X.fs ∧ (b ∈ X.ex ∨ X.s₀.heap.objs.size ≤ b) ∧ (∀ x c,X.env.cells.lookup x = some c → c ≠ b) ∧ ∀ p ∈ X.pn ++ pins,p.1 ≠ b
theorem Inv.fpOk {X : Cx} {pins : List (Addr × Obj)} {σ : St} {H H' : Hp} {s : Shared} {b : Addr} (I : Inv X pins σ H s) (hb : s.heap.objs.size ≤ b) (hn : H' b = none) : FpOk X pins H' b := by
  refine ⟨hn,Nat.ne_of_gt (Nat.lt_of_lt_of_le I.lt hb),I.nofs hb,.inr (Nat.le_trans I.sz hb),fun x c e z => ?_,fun p hp z => ?_⟩
  · obtain ⟨v,q⟩ := I.cell x c e
    exact absurd (Nat.lt_of_lt_of_le q.lt (by rw [z]; exact hb)) (Nat.lt_irrefl _)
  · exact absurd (Nat.lt_of_lt_of_le (Heap.lt_size (I.pin p hp).1) (by rw [z]; exact hb)) (Nat.lt_irrefl _)
structure Turn (P : Program) (w : World) (K : PySem.W.Frag) (tg : Expr) (J : It) (fp : List Addr) (it : Addr) (tn : Nat → Heap → Prop) : Prop where
  mem : it ∈ fp
  obj : ∀ i h,tn i h → ∀ b ∈ fp,∃ o,h.get? b = some o ∧ ∀ v,o.data ≠ .cell v
  keep : ∀ i h h',tn i h → (∀ b ∈ fp,∀ o,h.get? b = some o → h'.get? b = some o) → tn i h'
  item : ∀ (X : Cx),X.prog = P → X.w = w → X.K = K → X.calm = true → ∀ (i : Nat) (pins : List (Addr × Obj)) (s : Shared) (σ : St) (H : Hp) (E : Value → Shared → Prop),Inv X pins σ H s → (∀ b ∈ fp,FpOk X pins H b) → tn i s.heap → J.go i H →
    wpAny (model P w) X.A (pyNext (.ref it)) (fun r s1 => ∃ u,r = some u ∧
      wpAny (model P w) X.A (letOwnedTupleGo tg (.ref it) u) (fun _ s2 => ∃ x H',Inv X pins σ H' s2 ∧ RelV x u ∧ J.yld i H x H' ∧ tn (i + 1) s2.heap ∧ ∀ b ∈ fp,H' b = none) E s1) E s
  done : ∀ (X : Cx),X.prog = P → X.w = w → X.K = K → X.calm = true → ∀ (i : Nat) (pins : List (Addr × Obj)) (s : Shared) (σ : St) (H : Hp) (E : Value → Shared → Prop),Inv X pins σ H s → (∀ b ∈ fp,FpOk X pins H b) → tn i s.heap → J.stop i H →
    wpAny (model P w) X.A (pyNext (.ref it)) (fun r s1 => r = none ∧ Inv X pins σ H s1) E s
  self : ∀ (A : Around) (i : Nat) (s : Shared) (Q : Value → Shared → Prop) (E : Value → Shared → Prop),tn i s.heap → Q (.ref it) s → wpAny (model P w) A (pyIter (.ref it)) Q E s
abbrev TI := St → Hp → (It → Hp → Prop) → Prop
def PIE (X : Cx) (pins : List (Addr × Obj)) (σ : St) (tg : Expr) (R : It → Hp → Prop) (itv : Value) (s2 : Shared) : Prop :=
  ∃ (it : Addr) (fp : List Addr) (tn : Nat → Heap → Prop) (J : It) (H' : Hp),itv = .ref it ∧ Inv X pins σ H' s2 ∧ Turn X.prog X.w X.K tg J fp it tn ∧ tn 0 s2.heap ∧ (∀ b ∈ fp,FpOk X pins H' b) ∧ R J H'
def PI (X : Cx) (tg iter : Expr) (wi : TI) : Prop :=
  ∀ (pins : List (Addr × Obj)) (s : Shared) (σ : St) (H : Hp) (R : It → Hp → Prop),Inv X pins σ H s → wi σ H R →
    wpAny (model X.prog X.w) X.A (eval iter X.env) (fun v s1 => wpAny (model X.prog X.w) X.A (pyIter v) (PIE X pins σ tg R) X.xe s1) X.xe s
theorem go_of {M : Model} {A : Around} {E : Value → Shared → Prop} {s : Shared} {tg : Expr} {it : Addr} {u : Value} {o : Obj} {n : String} {vs : Array Value} {Q : Unit → Shared → Prop} (ho : s.heap.get? it = some o) (hc : o.cls = .type n) (hd : o.data = .fields vs)
    (hn : ["enumerate","zip","dict_itemiterator","dict_reverseitemiterator","odict_iterator","itertools.zip_longest","itertools.pairwise"].contains n = false) (hQ : Q () s) : wpAny M A (letOwnedTupleGo tg (.ref it) u) Q E s := by
  unfold letOwnedTupleGo
  cases tg <;> first
    | exact wpAny_pure hQ
    | (cases u <;> first
        | exact wpAny_pure hQ
        | (refine wpAny_bind (wpAny_load ho ?_)
           rw [hc,hd]
           show wpAny M A (if (["enumerate","zip","dict_itemiterator","dict_reverseitemiterator","odict_iterator","itertools.zip_longest","itertools.pairwise"].contains n && vs[0]? == some (rawInt _)) = true then _ else _) Q E s
           rw [if_neg (by intro h; rw [hn,Bool.false_and] at h; cases h)]
           exact wpAny_pure hQ))
def Itl (K : PySem.W.Frag) (a : Addr) : It :=
  ⟨fun i H => ∃ xs x,SqL K H a xs ∧ xs[i]? = some x,fun i H x H' => H' = H ∧ ∀ xs,SqL K H a xs → xs[i]? = some x,fun i H => ∃ xs,SqL K H a xs ∧ xs.length ≤ i⟩
def Itr (lo : Int) (n : Nat) : It := ⟨fun i _ => i < n,fun i H x H' => H' = H ∧ x = .int (lo + i),fun i _ => n ≤ i⟩
theorem turn_list {P : Program} {w : World} {K : PySem.W.Frag} {tg : Expr} (a it : Addr) : Turn P w K tg (Itl K a) [it] it (fun i h => h.IsListIter it a i) where
  mem := by simp
  obj := fun i h st b hb => by
    have e : b = it := by simpa using hb
    subst e
    obtain ⟨o,e,c,d⟩ := st
    exact ⟨o,e,fun v z => by rw [d] at z; cases z⟩
  keep := fun i h h' st k => st.at fun o e => k it (by simp) o e
  item := by
    intro X hP hw hK hc i pins s σ H E I hf st hg
    subst hP hw hK
    obtain ⟨xs,x,hq,hx⟩ := hg
    obtain ⟨its,rv,p,hz⟩ := I.list hq
    obtain ⟨u,hu,ru⟩ := rv.get hx
    obtain ⟨f0,f1,f2,f3,f4,f5⟩ := hf it (by simp)
    refine wpAny_pyNext_list_item st p.isList (x := u) (by simpa using hu) fun h' st' sb => ?_
    have I1 : Inv X pins σ H { s with heap := h' } := I.turned (t' := s.toks) (fun b o hb e => (sb.2 b hb).trans e) f0 f1 f3 f4 f5
    obtain ⟨o,e,c,d⟩ := id st'
    exact ⟨u,rfl,go_of (s := { s with heap := h' }) e c d (by decide) ⟨x,H,I1,ru,⟨rfl,fun ys hy => by rw [I.list_inj hy hq]; exact hx⟩,st',fun b hb => (hf b hb).1⟩⟩
  done := by
    intro X hP hw hK hc i pins s σ H E I hf st hg
    subst hP hw hK
    obtain ⟨xs,hq,hx⟩ := hg
    obtain ⟨its,rv,p,hz⟩ := I.list hq
    obtain ⟨f0,f1,f2,f3,f4,f5⟩ := hf it (by simp)
    have hl := rv.length
    exact wpAny_pyNext_list_end (I.ok.hd hc) st p.isList (by simp; omega) fun h' eb => ⟨rfl,I.turned (t' := s.toks) (fun b o hb e => eb b o hb e) f0 f1 f3 f4 f5⟩
  self := fun _ _ _ _ _ st h => wpAny_pyIter_listiter st h
theorem turn_range {P : Program} {w : World} {K : PySem.W.Frag} {tg : Expr} (it : Addr) (lo : Int) (n : Nat) : Turn P w K tg (Itr lo n) [it] it (fun i h => IsRangeIter h it (lo + (i : Nat) * 1) ((n : Int) - (i : Nat)) 1) where
  mem := by simp
  obj := fun i h st b hb => by
    have e : b = it := by simpa using hb
    subst e
    exact ⟨_,st,fun v z => by
      have z' : Data.fields _ = Data.cell v := z
      cases z'⟩
  keep := fun i h h' st k => k it (by simp) _ st
  item := by
    intro X hP hw hK hc i pins s σ H E I hf st hg
    subst hP hw hK
    obtain ⟨f0,f1,f2,f3,f4,f5⟩ := hf it (by simp)
    have W := Walks.range (prog := X.prog) (w := X.w) (I.ok.hd hc) it lo 1 n
    refine W.item i s _ _ hg st fun v h' tk hv st' kk => ?_
    obtain ⟨t,rfl⟩ := hv
    have I1 : Inv X pins σ H { s with heap := h',toks := tk } := I.turned (fun b o hb e => kk b o (by simpa using hb) e) f0 f1 f3 f4 f5
    refine ⟨_,rfl,go_of (s := { s with heap := h',toks := tk }) (n := "range_iterator") st' rfl rfl (by decide) ⟨.int (lo + i),H,I1,⟨t,?_⟩,⟨rfl,rfl⟩,st',fun b hb => (hf b hb).1⟩⟩
    rw [Int.mul_one]
  done := by
    intro X hP hw hK hc i pins s σ H E I hf st hg
    subst hP hw hK
    obtain ⟨f0,f1,f2,f3,f4,f5⟩ := hf it (by simp)
    exact wpAny_pyNext_range_end (I.ok.hd hc) st (by have : n ≤ i := hg; omega) fun h' eb => ⟨rfl,I.turned (t' := s.toks) (fun b o hb e => eb b o hb e) f0 f1 f3 f4 f5⟩
  self := fun _ _ _ _ _ st h => wpAny_pyIter_rangeiter st h
end L2
namespace L2
open PySem PySem.Spec PyProof.Rows
section
variable {X : Cx} {tg : Expr}
def iList (K : PySem.W.Frag) (tl : TE) : TI := fun σ H R => tl σ H fun x H1 => ∃ a,x = .ref a ∧ (∃ xs,SqL K H1 a xs) ∧ R (Itl K a) H1
theorem pi_list {l : Expr} {tl : TE} (hl : PE X l tl) : PI X tg l (iList X.K tl) := by
  intro pins s σ H R I h
  refine thn (hl pins s σ H _ I h) fun v s1 ⟨x,H1,I1,r1,q1⟩ => ?_
  obtain ⟨a,e,⟨xs,hq⟩,q⟩ := q1
  subst e
  cases r1
  obtain ⟨its,rv,p,hz⟩ := I1.list hq
  refine wpAny_pyIter_list p.isList ?_
  refine ⟨s1.heap.objs.size,[s1.heap.objs.size],_,_,H1,rfl,I1.kept (t' := s1.toks) fun b o e => Heap.get?_push_of_some _ e,turn_list a _,⟨_,Heap.get?_push_size _ rfl,rfl,rfl⟩,fun b hb => ?_,q⟩
  have e : b = s1.heap.objs.size := by simpa using hb
  subst e
  exact I1.fpOk (Nat.le_refl _) (I1.hok.fresh (Nat.le_refl _))
theorem range_it {pins : List (Addr × Obj)} {σ : St} {H : Hp} {s : Shared} {R : It → Hp → Prop} {E : Value → Shared → Prop} {lo hi : Int} {t u v : Tok} {tk : Nat} (I : Inv X pins σ H s) (h1 : -(2 ^ 62) ≤ lo) (h2 : lo < 2 ^ 62) (h3 : -(2 ^ 62) ≤ hi) (h4 : hi < 2 ^ 62)
    (q : R (Itr lo (hi - lo).toNat) H) : wpAny (model X.prog X.w) X.A (pyIter (.ref s.heap.objs.size)) (PIE X pins σ tg R) E { s with heap := s.heap.push { cls := .type "range",data := .fields #[.int lo t,.int hi u,.int 1 v] },toks := tk } := by
  refine wpAny_pyIter_range (IsRange.new ..) (small_one h1 h2 h3 h4) ?_
  have I1 : Inv X pins σ H { s with heap := s.heap.push { cls := .type "range",data := .fields #[.int lo t,.int hi u,.int 1 v] },toks := tk } := I.kept fun b o e => Heap.get?_push_of_some _ e
  refine ⟨(s.heap.push { cls := .type "range",data := .fields #[.int lo t,.int hi u,.int 1 v] }).objs.size,[(s.heap.push { cls := .type "range",data := .fields #[.int lo t,.int hi u,.int 1 v] }).objs.size],_,_,H,rfl,
    I1.kept (t' := tk) fun b o e => Heap.get?_push_of_some _ e,turn_range _ lo (hi - lo).toNat,?_,fun b hb => ?_,q⟩
  · have e1 : lo + ((0 : Nat) : Int) * 1 = lo := by simp
    have e2 : (((hi - lo).toNat : Nat) : Int) - ((0 : Nat) : Int) = Builtin.Range.rangeSize lo hi 1 := by rw [rangeSize_one]; split <;> omega
    show IsRangeIter _ _ (lo + ((0 : Nat) : Int) * 1) ((((hi - lo).toNat : Nat) : Int) - ((0 : Nat) : Int)) 1
    rw [e1,e2]
    exact Heap.get?_push_size _ rfl
  · have e : b = (s.heap.push { cls := .type "range",data := .fields #[.int lo t,.int hi u,.int 1 v] }).objs.size := by simpa using hb
    subst e
    exact I1.fpOk (Nat.le_refl _) (I1.hok.fresh (Nat.le_refl _))
def iRng1 (ta : TA) : TI := fun σ H R => ta σ H fun vs H1 => ∃ j : Int,vs = [.int j] ∧ -(2 ^ 62) ≤ j ∧ j < 2 ^ 62 ∧ R (Itr 0 j.toNat) H1
theorem pi_range1 {a : Expr} {ta : TA} {p pos : Pos} (hg : Gl X "range") (hm : X.mg "range" = none) (ha : PA X [a] ta) (hs : starEach [a] X.env = [(false,eval a X.env)] := by rfl) : PI X tg (.Call (.Name "range" p) [a] [] pos) (iRng1 ta) := by
  intro pins s σ H R I h
  refine Call_ (ld_blt I hg hm boot_range (PyProof.Rows.callWith_type1 (thn (ha pos pins s σ H _ I h) fun us s1 ⟨vs,H1,I1,r1,q1⟩ => ?_) hs rfl))
  obtain ⟨j,e,q1,q2,q⟩ := q1
  subst e
  cases r1 with
  | cons r rr =>
    cases rr
    obtain ⟨t,rfl⟩ := r
    exact call_range_1 (range_it I1 (by omega) (by omega) q1 q2 (by simpa using q))
def tFor (wi : TI) (g : TG) (tb : TS) : TS := fun D σ H => wi σ H fun J H1 => ∃ W : Nat → Nat → St → Hp → Prop,(∃ m,W 0 m σ H1) ∧ ∀ i m σ H,W i m σ H →
  (J.stop i H ∧ D.nx σ H) ∨ (J.go i H ∧ ∃ N : St → Hp → Prop,(∀ σ' H',N σ' H' → ∃ m',m' < m ∧ W (i + 1) m' σ' H') ∧ ∀ x H',J.yld i H x H' → g x σ H' fun σ2 H2 => tb { D with nx := N,ct := N,bk := D.nx } σ2 H2)
def pinsAt (fp : List Addr) (h : Heap) : List (Addr × Obj) := fp.filterMap fun b => (h.get? b).map fun o => (b,o)
theorem mem_pinsAt {fp : List Addr} {h : Heap} {b : Addr} {o : Obj} (hb : b ∈ fp) (e : h.get? b = some o) : (b,o) ∈ pinsAt fp h := List.mem_filterMap.mpr ⟨b,hb,by rw [e]; rfl⟩
theorem of_pinsAt {fp : List Addr} {h : Heap} {p : Addr × Obj} (hp : p ∈ pinsAt fp h) : p.1 ∈ fp ∧ h.get? p.1 = some p.2 := by
  obtain ⟨b,hb,e⟩ := List.mem_filterMap.mp hp
  cases q : h.get? b with
  | none => rw [q] at e; cases e
  | some o =>
    rw [q] at e
    have e' : (b,o) = p := Option.some.inj e
    subst e'
    exact ⟨hb,q⟩
theorem Inv.pinned {pins : List (Addr × Obj)} {σ : St} {H : Hp} {s : Shared} {fp : List Addr} (I : Inv X pins σ H s) (hf : ∀ b ∈ fp,FpOk X pins H b) (ho : ∀ b ∈ fp,∃ o,s.heap.get? b = some o ∧ ∀ v,o.data ≠ .cell v) : Inv X (pins ++ pinsAt fp s.heap) σ H s :=
  I.pins_of fun p hp => (List.mem_append.mp hp).elim (fun z => I.pin p (List.mem_append_right _ z)) fun z => by
    obtain ⟨hb,e⟩ := of_pinsAt z
    obtain ⟨f0,f1,f2,_⟩ := hf p.1 hb
    obtain ⟨o,e',d⟩ := ho p.1 hb
    rw [e] at e'; cases e'
    exact ⟨e,f0,f1,f2,d⟩
theorem Inv.unpinned {pins pl : List (Addr × Obj)} {σ : St} {H : Hp} {s : Shared} (I : Inv X (pins ++ pl) σ H s) : Inv X pins σ H s := I.pins_of fun p hp => I.pin p (List.mem_append_right _ (List.mem_append_left _ hp))
theorem ps_for {iter : Expr} {body : List Stmt} {wi : TI} {g : TG} {tb : TS} {pos : Pos} (hp : PassesOwn (model X.prog X.w) X.A X.env X.xe) (hc : X.calm = true) (hi : PI X tg iter wi) (hg : PG X tg g) (hb : PSs X body tb)
    (hs : ∀ x,foldedSetIterable iter X.env x = pure x := by intro _; rfl) : PS X (.For tg iter body [] pos) (tFor wi g tb) := by
  intro pins s σ H D I h
  refine wpAny_For (thn (hi pins s σ H _ I h) fun v s1 h1 => thn h1 fun itv s2 h2 => ?_) hs
  obtain ⟨it,fp,tn,J,H2,e,I2,T,st2,f2,W,⟨m0,w0⟩,turn⟩ := h2
  subst e
  have stat : ∀ {H' : Hp},(∀ b ∈ fp,H' b = none) → ∀ b ∈ fp,FpOk X pins H' b := fun hn b hb => ⟨hn b hb,(f2 b hb).2⟩
  refine codeAny_forLoop_any (fun n s' => ∃ i σ' H',Inv X pins σ' H' s' ∧ tn i s'.heap ∧ (∀ b ∈ fp,H' b = none) ∧ W i n σ' H') ?_ m0 ⟨0,σ,H2,I2,st2,fun b hb => (f2 b hb).1,w0⟩
  rintro n s3 ⟨i,σ3,H3,I3,st3,fr3,w3⟩
  rcases turn i n σ3 H3 w3 with ⟨stop,qn⟩ | ⟨go,N,hN,step⟩
  · refine wpAny_passesOwn hp (thn (T.done X rfl rfl rfl hc i pins s3 σ3 H3 X.xe I3 (stat fr3) st3 stop) fun r s4 ⟨hr,I4⟩ => ?_)
    subst hr
    exact wpAny_execs_nil ⟨σ3,H3,I4,qn⟩
  · refine wpAny_passesOwn hp (thn (T.item X rfl rfl rfl hc i pins s3 σ3 H3 X.xe I3 (stat fr3) st3 go) fun r s4 ⟨u,hr,h4⟩ => ?_)
    subst hr
    refine wpAny_passesOwn hp (thn h4 fun _ s5 ⟨x,H5,I5,r5,y5,st5,fr5⟩ => ?_)
    have I5' := I5.pinned (stat fr5) (T.obj _ _ st5)
    refine wpAny_passesOwn hp (thn (hg _ s5 σ3 H5 x u _ I5' r5 (step x H5 y5)) fun _ s6 ⟨σ6,H6,I6,q6⟩ => ?_)
    refine wpAny_passesOwn hp (thn (hb _ s6 σ6 H6 _ I6 q6) fun f s7 q7 => ?_)
    have again : ∀ {σ7 : St} {H7 : Hp},Inv X (pins ++ pinsAt fp s5.heap) σ7 H7 s7 → N σ7 H7 → ∃ m,m < n ∧ ∃ i σ' H',Inv X pins σ' H' s7 ∧ tn i s7.heap ∧ (∀ b ∈ fp,H' b = none) ∧ W i m σ' H' := fun {σ7 H7} I7 n7 => by
      obtain ⟨m',hm,w7⟩ := hN σ7 H7 n7
      refine ⟨m',hm,i + 1,σ7,H7,I7.unpinned,T.keep _ _ _ st5 fun b hb o e => (I7.pin (b,o) (List.mem_append_right _ (List.mem_append_right _ (mem_pinsAt hb e)))).1,fun b hb => ?_,w7⟩
      obtain ⟨o,e,d⟩ := T.obj _ _ st5 b hb
      exact (I7.pin (b,o) (List.mem_append_right _ (List.mem_append_right _ (mem_pinsAt hb e)))).2.1
    cases f with
    | next => obtain ⟨σ7,H7,I7,n7⟩ := q7; exact again I7 n7
    | cont => obtain ⟨σ7,H7,I7,n7⟩ := q7; exact again I7 n7
    | brk => obtain ⟨σ7,H7,I7,q7⟩ := q7; exact ⟨σ7,H7,I7.unpinned,q7⟩
    | ret v => obtain ⟨x7,σ7,H7,I7,r7,q7⟩ := q7; exact ⟨x7,σ7,H7,I7.unpinned,r7,q7⟩
end
theorem for_list {K : PySem.W.Frag} {a : Addr} {xs : List V} {g : TG} {tb : TS} {D : Ends} {σ : St} {H : Hp} (Pv : Nat → St → Hp → Prop) (h0 : Pv 0 σ H) (hl : ∀ i σ H,i ≤ xs.length → Pv i σ H → SqL K H a xs)
    (hs : ∀ i x σ H,xs[i]? = some x → Pv i σ H → g x σ H fun σ2 H2 => tb { D with nx := Pv (i + 1),ct := Pv (i + 1),bk := D.nx } σ2 H2) (hd : ∀ σ H,Pv xs.length σ H → D.nx σ H) :
    ∃ W : Nat → Nat → St → Hp → Prop,(∃ m,W 0 m σ H) ∧ ∀ i m σ H,W i m σ H →
      ((Itl K a).stop i H ∧ D.nx σ H) ∨ ((Itl K a).go i H ∧ ∃ N : St → Hp → Prop,(∀ σ' H',N σ' H' → ∃ m',m' < m ∧ W (i + 1) m' σ' H') ∧ ∀ x H',(Itl K a).yld i H x H' → g x σ H' fun σ2 H2 => tb { D with nx := N,ct := N,bk := D.nx } σ2 H2) := by
  refine ⟨fun i m σ H => m = xs.length - i ∧ i ≤ xs.length ∧ Pv i σ H,⟨xs.length,by simp,Nat.zero_le _,h0⟩,?_⟩
  rintro i m σ H ⟨rfl,hi,p⟩
  have q := hl i σ H hi p
  by_cases hlt : i < xs.length
  · refine .inr ⟨⟨xs,xs[i],q,by simp [hlt]⟩,Pv (i + 1),fun σ' H' p' => ⟨xs.length - (i + 1),by omega,rfl,hlt,p'⟩,fun x H' y => ?_⟩
    obtain ⟨e,y⟩ := y
    subst e
    exact hs i x σ _ (y xs q) p
  · have e : i = xs.length := by omega
    subst e
    exact .inl ⟨⟨xs,q,Nat.le_refl _⟩,hd σ H p⟩
theorem for_range {lo : Int} {n : Nat} {g : TG} {tb : TS} {D : Ends} {σ : St} {H : Hp} (Pv : Nat → St → Hp → Prop) (h0 : Pv 0 σ H)
    (hs : ∀ i σ H,i < n → Pv i σ H → g (.int (lo + i)) σ H fun σ2 H2 => tb { D with nx := Pv (i + 1),ct := Pv (i + 1),bk := D.nx } σ2 H2) (hd : ∀ σ H,Pv n σ H → D.nx σ H) :
    ∃ W : Nat → Nat → St → Hp → Prop,(∃ m,W 0 m σ H) ∧ ∀ i m σ H,W i m σ H →
      ((Itr lo n).stop i H ∧ D.nx σ H) ∨ ((Itr lo n).go i H ∧ ∃ N : St → Hp → Prop,(∀ σ' H',N σ' H' → ∃ m',m' < m ∧ W (i + 1) m' σ' H') ∧ ∀ x H',(Itr lo n).yld i H x H' → g x σ H' fun σ2 H2 => tb { D with nx := N,ct := N,bk := D.nx } σ2 H2) := by
  refine ⟨fun i m σ H => m = n - i ∧ i ≤ n ∧ Pv i σ H,⟨n,by simp,Nat.zero_le _,h0⟩,?_⟩
  rintro i m σ H ⟨rfl,hi,p⟩
  by_cases hlt : i < n
  · refine .inr ⟨hlt,Pv (i + 1),fun σ' H' p' => ⟨n - (i + 1),by omega,rfl,hlt,p'⟩,fun x H' y => ?_⟩
    obtain ⟨e,y⟩ := y
    subst e y
    exact hs i σ _ hlt p
  · have e : i = n := by omega
    subst e
    exact .inl ⟨Nat.le_refl _,hd σ H p⟩
theorem while_by {c : TT} {tb : TS} {D : Ends} {σ : St} {H : Hp} (Pv : St → Hp → Prop) (μ : St → Hp → Nat) (h0 : Pv σ H)
    (hs : ∀ σ H,Pv σ H → c σ H fun b H1 => if b = true then tb { D with nx := fun σ' H' => Pv σ' H' ∧ μ σ' H' < μ σ H,ct := fun σ' H' => Pv σ' H' ∧ μ σ' H' < μ σ H,bk := D.nx } σ H1 else D.nx σ H1)
    (mono : ∀ σ H Q Q',(∀ b H1,Q b H1 → Q' b H1) → c σ H Q → c σ H Q') : tWhile c tb D σ H := by
  refine ⟨fun m σ H => m = μ σ H ∧ Pv σ H,⟨_,rfl,h0⟩,?_⟩
  rintro m σ H ⟨rfl,p⟩
  refine mono σ H _ _ (fun b H1 q => ?_) (hs σ H p)
  cases b with
  | true => exact ⟨_,fun σ' H' ⟨p',l⟩ => ⟨_,l,rfl,p'⟩,q⟩
  | false => exact q
end L2
namespace L2
open PySem PySem.Spec PyProof.Rows
abbrev R2 := V → V → Hp → VK → Prop
def OpR (X : Cx) (f : Value → Value → Sem Value) (r : R2) : Prop :=
  ∀ (pins : List (Addr × Obj)) (s : Shared) (σ : St) (H : Hp) (x y : V) (v u : Value) (Q : VK),Inv X pins σ H s → RelV x v → RelV y u → r x y H Q →
    wpAny (model X.prog X.w) X.A (f v u) (EP X pins σ Q) X.xe s
def UnR (X : Cx) (f : Value → Sem Value) (r : V → Hp → VK → Prop) : Prop :=
  ∀ (pins : List (Addr × Obj)) (s : Shared) (σ : St) (H : Hp) (x : V) (v : Value) (Q : VK),Inv X pins σ H s → RelV x v → r x H Q →
    wpAny (model X.prog X.w) X.A (f v) (EP X pins σ Q) X.xe s
def CallR (X : Cx) (f : Value) (r : List V → Hp → VK → Prop) : Prop :=
  ∀ (pins : List (Addr × Obj)) (s : Shared) (σ : St) (H : Hp) (xs : List V) (us : List Value) (Q : VK),Inv X pins σ H s → Vals xs us → r xs H Q →
    wpAny (model X.prog X.w) X.A (call f us) (EP X pins σ Q) X.xe s
def tOp (r : R2) (ta tb : TE) : TE := fun σ H Q => ta σ H fun x H1 => tb σ H1 fun y H2 => r x y H2 Q
def tUn (r : V → Hp → VK → Prop) (ta : TE) : TE := fun σ H Q => ta σ H fun x H1 => r x H1 Q
def rI (C : Int → Int → Prop) (g : Int → Int → V) : R2 := fun x y H Q => ∃ i j,x = .int i ∧ y = .int j ∧ C i j ∧ Q (g i j) H
def rI0 (g : Int → Int → V) : R2 := fun x y H Q => ∃ i j,x = .int i ∧ y = .int j ∧ Q (g i j) H
def rU (g : Int → V) : V → Hp → VK → Prop := fun x H Q => ∃ i,x = .int i ∧ Q (g i) H
section
variable {X : Cx} {a b c : Expr} {ta tb tc : TE} {pos : Pos}
theorem binT (ha : PE X a ta) (hb : PE X b tb) {pins : List (Addr × Obj)} {s : Shared} {σ : St} {H : Hp} {R : V → V → Hp → Prop} (I : Inv X pins σ H s)
    (h : ta σ H fun x H1 => tb σ H1 fun y H2 => R x y H2) {Q : Value → Shared → Prop} {f : Value → Value → Sem Value}
    (hf : ∀ v u s2 x y H2,Inv X pins σ H2 s2 → RelV x v → RelV y u → R x y H2 → wpAny (model X.prog X.w) X.A (f v u) Q X.xe s2) :
    wpAny (model X.prog X.w) X.A (eval a X.env) (fun v s₁ => wpAny (model X.prog X.w) X.A (eval b X.env) (fun u s₂ => wpAny (model X.prog X.w) X.A (f v u) Q X.xe s₂) X.xe s₁) X.xe s := by
  refine thn (ha pins s σ H _ I h) fun v s1 ⟨x,H1,I1,r1,q1⟩ => ?_
  refine thn (hb pins s1 σ H1 _ I1 q1) fun u s2 ⟨y,H2,I2,r2,q2⟩ => ?_
  exact hf v u s2 x y H2 I2 r1 r2 q2
theorem pe_op {op : Operator} {r : R2} (ho : OpR X (binaryOp op) r) (ha : PE X a ta) (hb : PE X b tb) : PE X (.BinOp a op b pos) (tOp r ta tb) := by
  intro pins s σ H Q I h
  exact wpAny_BinOp (binT ha hb I h fun v u s2 x y H2 I2 rx ry q => ho pins s2 σ H2 x y v u Q I2 rx ry q)
theorem pe_un {op : UnaryOp} {r : V → Hp → VK → Prop} (ho : UnR X (unaryOp op) r) (ha : PE X a ta) : PE X (.UnaryOp op a pos) (tUn r ta) := by
  intro pins s σ H Q I h
  exact UnaryOp_ (thn (ha pins s σ H _ I h) fun v s1 ⟨x,H1,I1,r1,q1⟩ => ho pins s1 σ H1 x v Q I1 r1 q1)
theorem opI {f : Value → Value → Sem Value} {C : Int → Int → Prop} {g : Int → Int → Int}
    (rule : ∀ (i j : Int) (t u : Tok) (s : Shared) (Q : Value → Shared → Prop) (E : Value → Shared → Prop),C i j → Q (.int (g i j) s.toks) { s with toks := s.toks + 1 } → wpAny (model X.prog X.w) X.A (f (.int i t) (.int j u)) Q E s) :
    OpR X f (rI C fun i j => .int (g i j)) := by
  intro pins s σ H x y v u Q I rx ry h
  obtain ⟨i,j,rfl,rfl,hc,q⟩ := h
  obtain ⟨t,rfl⟩ := rx
  obtain ⟨t',rfl⟩ := ry
  exact rule i j t t' s _ _ hc ⟨.int (g i j),H,I.tok _,⟨_,rfl⟩,q⟩
theorem opI0 {f : Value → Value → Sem Value} {g : Int → Int → Int}
    (rule : ∀ (i j : Int) (t u : Tok) (s : Shared) (Q : Value → Shared → Prop) (E : Value → Shared → Prop),Q (.int (g i j) s.toks) { s with toks := s.toks + 1 } → wpAny (model X.prog X.w) X.A (f (.int i t) (.int j u)) Q E s) :
    OpR X f (rI0 fun i j => .int (g i j)) := by
  intro pins s σ H x y v u Q I rx ry h
  obtain ⟨i,j,rfl,rfl,q⟩ := h
  obtain ⟨t,rfl⟩ := rx
  obtain ⟨t',rfl⟩ := ry
  exact rule i j t t' s _ _ ⟨.int (g i j),H,I.tok _,⟨_,rfl⟩,q⟩
theorem opB0 {f : Value → Value → Sem Value} {g : Int → Int → Bool}
    (rule : ∀ (i j : Int) (t u : Tok) (s : Shared) (Q : Value → Shared → Prop) (E : Value → Shared → Prop),Q (.bool (g i j)) s → wpAny (model X.prog X.w) X.A (f (.int i t) (.int j u)) Q E s) :
    OpR X f (rI0 fun i j => .bl (g i j)) := by
  intro pins s σ H x y v u Q I rx ry h
  obtain ⟨i,j,rfl,rfl,q⟩ := h
  obtain ⟨t,rfl⟩ := rx
  obtain ⟨t',rfl⟩ := ry
  exact rule i j t t' s _ _ ⟨.bl (g i j),H,I,rfl,q⟩
def CPow (i j : Int) : Prop := 0 ≤ j ∧ j ≤ 1000000 ∧ i.natAbs < 2 ^ 64
def CMul (i j : Int) : Prop := (-(2 ^ 64) < i ∧ i < 2 ^ 64) ∨ (-(2 ^ 64) < j ∧ j < 2 ^ 64)
theorem CMul.ok {i j : Int} (h : CMul i j) : IntMulOk i j := by
  rcases h with ⟨h1,h2⟩ | ⟨h1,h2⟩
  · exact .of_left (intBits_le_64 h1 h2)
  · exact .of_right (intBits_le_64 h1 h2)
theorem op_add : OpR X (binaryOp .Add) (rI0 fun i j => .int (i + j)) := opI0 fun _ _ _ _ _ _ _ q => add_int q
theorem op_sub : OpR X (binaryOp .Sub) (rI0 fun i j => .int (i - j)) := opI0 fun _ _ _ _ _ _ _ q => sub_int q
theorem op_mod : OpR X (binaryOp .Mod) (rI (fun _ j => 0 < j) fun i j => .int (i % j)) := opI fun i j _ _ _ _ _ hc q => by
  have h1 : (0 : Int) < j := hc
  exact mod_int' (by omega) (by rw [Int.fmod_eq_emod_of_nonneg i (by omega)]; exact q)
theorem op_pow : OpR X (binaryOp .Pow) (rI CPow fun i j => .int (i ^ j.toNat)) := opI fun _ _ _ _ _ _ _ hc q => pow_int_small hc.1 hc.2.1 hc.2.2 q
theorem unI {f : Value → Sem Value} {g : Int → Int}
    (rule : ∀ (i : Int) (t : Tok) (s : Shared) (Q : Value → Shared → Prop) (E : Value → Shared → Prop),Q (.int (g i) s.toks) { s with toks := s.toks + 1 } → wpAny (model X.prog X.w) X.A (f (.int i t)) Q E s) :
    UnR X f (rU fun i => .int (g i)) := by
  intro pins s σ H x v Q I rx h
  obtain ⟨i,rfl,q⟩ := h
  obtain ⟨t,rfl⟩ := rx
  exact rule i t s _ _ ⟨.int (g i),H,I.tok _,⟨_,rfl⟩,q⟩
theorem un_neg : UnR X (unaryOp .USub) (rU fun i => .int (-i)) := unI fun _ _ _ _ _ q => neg_int q
end
def scal : V → V → Bool
  | .non,.non => true | .non,.int _ => true | .int _,.non => true | .non,.bl _ => true | .bl _,.non => true | .non,.str _ => true | .str _,.non => true
  | .int _,.int _ => true | .bl _,.bl _ => true | .str _,.str _ => true | .byt _,.byt _ => true
  | .int _,.str _ => true | .str _,.int _ => true | .bl _,.str _ => true | .str _,.bl _ => true
  | _,_ => false
def rEq : R2 := fun x y H Q => scal x y = true ∧ Q (.bl (decide (x = y))) H
def rNe : R2 := fun x y H Q => scal x y = true ∧ Q (.bl (!decide (x = y))) H
theorem dec_int {i j : Int} : decide (V.int i = V.int j) = (i == j) := by
  rw [Bool.eq_iff_iff]
  simp
theorem dec_bl {i j : Bool} : decide (V.bl i = V.bl j) = (i == j) := by
  rw [Bool.eq_iff_iff]
  simp
theorem dec_str {i j : Str} : decide (V.str i = V.str j) = (i == j) := by
  rw [Bool.eq_iff_iff]
  simp
theorem dec_byt {i j : Array UInt8} : decide (V.byt i = V.byt j) = (i.toList == j.toList) := by
  rw [Bool.eq_iff_iff]
  cases i
  cases j
  simp
section
variable {X : Cx} {a b c : Expr} {ta tb tc : TE} {pos : Pos}
theorem fin_bl {pins : List (Addr × Obj)} {σ : St} {H : Hp} {s : Shared} {Q : VK} {k k' : Bool} (I : Inv X pins σ H s) (q : Q (.bl k) H) (e : k = k') : EP X pins σ Q (.bool k') s := by
  subst e
  exact ⟨.bl k,H,I,rfl,q⟩
theorem op_eq : OpR X (compareOp .Eq) rEq := by
  intro pins s σ H x y v u Q I rx ry h
  obtain ⟨hs,q⟩ := h
  cases x with
  | non =>
    cases rx
    cases y with
    | non => cases ry; exact PySem.EqNone.eq_none_none (fin_bl I q (by simp))
    | bl j => cases ry; exact PySem.EqNone.eq_none_bool (fin_bl I q (by simp))
    | int j => obtain ⟨t',rfl⟩ := ry; exact PySem.EqNone.eq_none_int (fin_bl I q (by simp))
    | str j => obtain ⟨t',rfl⟩ := ry; exact PySem.EqNone.eq_none_str (fin_bl I q (by simp))
    | _ => exact absurd (show false = true from hs) Bool.false_ne_true
  | bl i =>
    cases rx
    cases y with
    | non => cases ry; exact PySem.EqNone.eq_bool_none (fin_bl I q (by simp))
    | bl j => cases ry; exact eq_bool (fin_bl I q dec_bl)
    | str j => obtain ⟨t',rfl⟩ := ry; exact PySem.EqMixed.eq_bool_str (fin_bl I q (by simp))
    | _ => exact absurd (show false = true from hs) Bool.false_ne_true
  | int i =>
    obtain ⟨t,rfl⟩ := rx
    cases y with
    | non => cases ry; exact PySem.EqNone.eq_int_none (fin_bl I q (by simp))
    | int j => obtain ⟨t',rfl⟩ := ry; exact eq_int (fin_bl I q dec_int)
    | str j => obtain ⟨t',rfl⟩ := ry; exact PySem.EqMixed.eq_int_str (fin_bl I q (by simp))
    | _ => exact absurd (show false = true from hs) Bool.false_ne_true
  | str i =>
    obtain ⟨t,rfl⟩ := rx
    cases y with
    | non => cases ry; exact PySem.EqNone.eq_str_none (fin_bl I q (by simp))
    | bl j => cases ry; exact PySem.EqMixed.eq_str_bool (fin_bl I q (by simp))
    | int j => obtain ⟨t',rfl⟩ := ry; exact PySem.EqMixed.eq_str_int (fin_bl I q (by simp))
    | str j => obtain ⟨t',rfl⟩ := ry; exact eq_str (fin_bl I q dec_str)
    | _ => exact absurd (show false = true from hs) Bool.false_ne_true
  | byt i =>
    obtain ⟨t,rfl⟩ := rx
    cases y with
    | byt j => obtain ⟨t',rfl⟩ := ry; exact PySem.W.eq_bytes (fin_bl I q dec_byt)
    | _ => exact absurd (show false = true from hs) Bool.false_ne_true
  | _ => cases y <;> exact absurd (show false = true from hs) Bool.false_ne_true
theorem op_ne : OpR X (compareOp .NotEq) rNe := by
  intro pins s σ H x y v u Q I rx ry h
  obtain ⟨hs,q⟩ := h
  cases x with
  | non =>
    cases rx
    cases y with
    | non => cases ry; exact PySem.EqNone.ne_none_none (fin_bl I q (by simp))
    | bl j => cases ry; exact PySem.EqNone.ne_none_bool (fin_bl I q (by simp))
    | int j => obtain ⟨t',rfl⟩ := ry; exact PySem.EqNone.ne_none_int (fin_bl I q (by simp))
    | str j => obtain ⟨t',rfl⟩ := ry; exact PySem.EqNone.ne_none_str (fin_bl I q (by simp))
    | _ => exact absurd (show false = true from hs) Bool.false_ne_true
  | bl i =>
    cases rx
    cases y with
    | non => cases ry; exact PySem.EqNone.ne_bool_none (fin_bl I q (by simp))
    | bl j => cases ry; exact ne_bool (fin_bl I q (congrArg not dec_bl))
    | str j => obtain ⟨t',rfl⟩ := ry; exact PySem.EqMixed.ne_bool_str (fin_bl I q (by simp))
    | _ => exact absurd (show false = true from hs) Bool.false_ne_true
  | int i =>
    obtain ⟨t,rfl⟩ := rx
    cases y with
    | non => cases ry; exact PySem.EqNone.ne_int_none (fin_bl I q (by simp))
    | int j => obtain ⟨t',rfl⟩ := ry; exact ne_int (fin_bl I q (congrArg not dec_int))
    | str j => obtain ⟨t',rfl⟩ := ry; exact PySem.EqMixed.ne_int_str (fin_bl I q (by simp))
    | _ => exact absurd (show false = true from hs) Bool.false_ne_true
  | str i =>
    obtain ⟨t,rfl⟩ := rx
    cases y with
    | non => cases ry; exact PySem.EqNone.ne_str_none (fin_bl I q (by simp))
    | bl j => cases ry; exact PySem.EqMixed.ne_str_bool (fin_bl I q (by simp))
    | int j => obtain ⟨t',rfl⟩ := ry; exact PySem.EqMixed.ne_str_int (fin_bl I q (by simp))
    | str j => obtain ⟨t',rfl⟩ := ry; exact ne_str (fin_bl I q (congrArg not dec_str))
    | _ => exact absurd (show false = true from hs) Bool.false_ne_true
  | byt i =>
    obtain ⟨t,rfl⟩ := rx
    cases y with
    | byt j => obtain ⟨t',rfl⟩ := ry; exact PySem.W.ne_bytes (fin_bl I q (congrArg not dec_byt))
    | _ => exact absurd (show false = true from hs) Bool.false_ne_true
  | _ => cases y <;> exact absurd (show false = true from hs) Bool.false_ne_true
theorem op_lt : OpR X (compareOp .Lt) (rI0 fun i j => .bl (decide (i < j))) := opB0 fun _ _ _ _ _ _ _ q => lt_int q
theorem op_le : OpR X (compareOp .LtE) (rI0 fun i j => .bl (decide (i ≤ j))) := opB0 fun _ _ _ _ _ _ _ q => le_int q
theorem op_gt : OpR X (compareOp .Gt) (rI0 fun i j => .bl (decide (j < i))) := opB0 fun _ _ _ _ _ _ _ q => gt_int q
theorem op_ge : OpR X (compareOp .GtE) (rI0 fun i j => .bl (decide (j ≤ i))) := opB0 fun _ _ _ _ _ _ _ q => ge_int q
theorem nomark (b : Expr) {op : CmpOp} (h : op ≠ .In := by decide) (h2 : op ≠ .NotIn := by decide) : behindInMarks op b = false := by
  have e1 : (op == CmpOp.In) = false := by cases op <;> first | rfl | exact absurd rfl h
  have e2 : (op == CmpOp.NotIn) = false := by cases op <;> first | rfl | exact absurd rfl h2
  cases b <;> simp [behindInMarks,e1,e2]
theorem pe_cmpR {op : CmpOp} {r : R2} (ho : OpR X (compareOp op) r) (ha : PE X a ta) (hb : PE X b tb) (hm : behindInMarks op b = false) : PE X (.Compare a [op] [b] pos) (tOp r ta tb) := by
  intro pins s σ H Q I h
  exact wpAny_Compare1 (binT ha hb I h fun v u s2 x y H2 I2 rx ry q => ho pins s2 σ H2 x y v u Q I2 rx ry q) hm
def tTest (t : TE) : TT := fun σ H Q => t σ H fun x H' => ∃ k,x = .bl k ∧ Q k H'
theorem pt_cmpR {op : CmpOp} {r : R2} (ho : OpR X (compareOp op) r) (ha : PE X a ta) (hb : PE X b tb) (hm : behindInMarks op b = false) : PT X (.Compare a [op] [b] pos) (tTest (tOp r ta tb)) := by
  intro pins s σ H Q I h
  refine wpAny_isTrue_Compare1 (thn (ha pins s σ H _ I h) fun v s1 ⟨x,H1,I1,r1,q1⟩ => thn (hb pins s1 σ H1 _ I1 q1) fun u s2 ⟨y,H2,I2,r2,q2⟩ =>
    thn (ho pins s2 σ H2 x y v u _ I2 r1 r2 q2) fun c s3 ⟨z,H3,I3,r3,k,e,q3⟩ => ?_) hm
  subst e
  cases r3
  exact wpAny_truthy_bool ⟨H3,I3,q3⟩
def tChain (r r' : R2) (ta tb tc : TE) : TE := fun σ H Q => ta σ H fun x H1 => tb σ H1 fun y H2 => r x y H2 fun z H3 => ∃ k,z = .bl k ∧
  (if k = true then tc σ H3 fun w' H4 => r' y w' H4 Q else Q (.bl false) H3)
theorem pe_chain {op op' : CmpOp} {r r' : R2} (ho : OpR X (compareOp op) r) (ho' : OpR X (compareOp op') r') (ha : PE X a ta) (hb : PE X b tb) (hc : PE X c tc)
    (hm : lastMarks [op,op'] [b,c] = false := by with_unfolding_all rfl) : PE X (.Compare a [op,op'] [b,c] pos) (tChain r r' ta tb tc) := by
  intro pins s σ H Q I h
  refine Compare_chain (thn (ha pins s σ H _ I h) fun v s1 ⟨x,H1,I1,r1,q1⟩ => chain_link (thn (hb pins s1 σ H1 _ I1 q1) fun u s2 ⟨y,H2,I2,r2,q2⟩ =>
    thn (ho pins s2 σ H2 x y v u _ I2 r1 r2 q2) fun d s3 ⟨z,H3,I3,r3,k,e,q3⟩ => ?_)) hm
  subst e
  cases r3
  refine wpAny_truthy_bool ?_
  cases k with
  | false => exact ite_ff ⟨.bl false,H3,I3,rfl,q3⟩
  | true => exact ite_tt (chain_last (thn (hc pins s3 σ H3 _ I3 q3) fun w' s4 ⟨z',H4,I4,r4,q4⟩ => ho' pins s4 σ H4 y z' u w' Q I4 r2 r4 q4))
theorem line63 : (sizeLine : Nat) < 2 ^ 63 := by rw [sizeLine_eq]; decide
theorem vals1 {x : V} {us : List Value} (r : Vals [x] us) : ∃ u,us = [u] ∧ RelV x u := by
  cases r with
  | cons r1 r2 => cases r2; exact ⟨_,rfl,r1⟩
theorem vals2 {x y : V} {us : List Value} (r : Vals [x,y] us) : ∃ u w',us = [u,w'] ∧ RelV x u ∧ RelV y w' := by
  cases r with
  | cons r1 r2 =>
    cases r2 with
    | cons r3 r4 => cases r4; exact ⟨_,_,rfl,r1,r3⟩
theorem call_abs : CallR X (.builtin "abs") (fun xs H Q => ∃ i,xs = [.int i] ∧ Q (.int (if i < 0 then -i else i)) H) := by
  intro pins s σ H xs us Q I r h
  obtain ⟨i,rfl,q⟩ := h
  obtain ⟨u,rfl,t,rfl⟩ := vals1 r
  exact call_abs_int fun u tk => ⟨.int (if i < 0 then -i else i),H,I.tok _,⟨_,rfl⟩,q⟩
theorem call_max2 (hc : X.calm = true) : CallR X (.builtin "max") (fun xs H Q => ∃ i j,xs = [.int i,.int j] ∧ Q (.int (if j > i then j else i)) H) := by
  intro pins s σ H xs us Q I r h
  obtain ⟨i,j,rfl,q⟩ := h
  obtain ⟨u,w',rfl,⟨t,rfl⟩,⟨t',rfl⟩⟩ := vals2 r
  refine max_two_ints (I.ok.hd hc) fun h' tk k => ⟨_,H,I.kept k,?_,q⟩
  by_cases hj : j > i
  · rw [if_pos hj,if_pos hj]; exact ⟨_,rfl⟩
  · rw [if_neg hj,if_neg hj]; exact ⟨_,rfl⟩
theorem call_min2 (hc : X.calm = true) : CallR X (.builtin "min") (fun xs H Q => ∃ i j,xs = [.int i,.int j] ∧ Q (.int (if j < i then j else i)) H) := by
  intro pins s σ H xs us Q I r h
  obtain ⟨i,j,rfl,q⟩ := h
  obtain ⟨u,w',rfl,⟨t,rfl⟩,⟨t',rfl⟩⟩ := vals2 r
  refine min_two_ints (I.ok.hd hc) fun h' tk k => ⟨_,H,I.kept k,?_,q⟩
  by_cases hj : j < i
  · rw [if_pos hj,if_pos hj]; exact ⟨_,rfl⟩
  · rw [if_neg hj,if_neg hj]; exact ⟨_,rfl⟩
theorem call_int1 : CallR X (.type "int") (fun xs H Q => (∃ i,xs = [.int i] ∧ Q (.int i) H) ∨ ∃ k,xs = [.bl k] ∧ Q (.int (if k then 1 else 0)) H) := by
  intro pins s σ H xs us Q I r h
  rcases h with ⟨i,rfl,q⟩ | ⟨k,rfl,q⟩
  · obtain ⟨u,rfl,t,rfl⟩ := vals1 r
    exact call_int_int ⟨.int i,H,I,⟨_,rfl⟩,q⟩
  · obtain ⟨u,rfl,r1⟩ := vals1 r
    cases r1
    exact call_int_bool ⟨.int (if k then 1 else 0),H,I.tok _,⟨_,rfl⟩,q⟩
end
end L2
namespace L2
open PySem PySem.Spec PyProof.Rows
structure ObjM (h : Heap) (x dx C : Addr) (mA : Str → Option Value) : Prop where
  obj : h.get? x = some (PySem.W.instObj C dx)
  ns : h.Ns1 dx mA
  ne : dx ≠ x
theorem lookIn_ns {h : Heap} {dx : Addr} {mA : Str → Option Value} (n : h.Ns1 dx mA) : ∃ od,h.get? dx = some od ∧ ∀ name,PySem.W.lookIn name od = some (mA name) := by
  obtain ⟨o,es,ep,ho,hd,hk,_,hm⟩ := n
  refine ⟨o,ho,fun name => ?_⟩
  have e := hm name
  unfold nsFind findBy at e
  rw [← Array.find?_toList] at e
  unfold PySem.W.lookIn
  rw [hd]
  dsimp only
  split
  · rename_i y q
    rw [q] at e
    exact congrArg some e
  · rename_i q
    rw [q] at e
    have a : es.toList.any (·.refKey) = false := by
      rw [List.any_eq_false]
      intro y hy
      obtain ⟨z,t,hkey⟩ := hk y (Array.mem_toList_iff.mp hy)
      simp [DictEntry.refKey,hkey]
    have a' : ¬ es.toList.any (·.refKey) = true := by rw [a]; exact Bool.false_ne_true
    rw [if_neg a']
    exact congrArg some e
theorem ObjM.look {h : Heap} {x dx C : Addr} {mA : Str → Option Value} (I : ObjM h x dx C mA) : ∃ od,PySem.W.InstAt h x (PySem.W.instObj C dx) C (some od) ∧ ∀ name,PySem.W.lookIn name od = some (mA name) :=
  let ⟨od,ho,hl⟩ := lookIn_ns I.ns
  ⟨od,⟨I.obj,rfl,rfl,ho⟩,hl⟩
section
variable {prog : Program} {w : World} {A : Around} {E : Value → Shared → Prop} {s : Shared} {K : PySem.W.Frag} {x dx C f : Addr} {mA : Str → Option Value} {name : Str} {v : Value}
end
section
variable {P : Program} {w : World} {H H' : Hp} {h h' : Heap} {a C dx : Addr} {fs fs' : List (Str × V)}
theorem ins_get (hok : HOk P w H h) (e : H a = some (.ins C dx fs)) : ∃ mA,ObjM h a dx C mA ∧ (∀ f,RelO (fs.lookup f) (mA f)) ∧ PySem.Within mA (fs.map (·.1)) ∧ fs.length ≤ 1000 ∧ H dx = some (.own a) := by
  obtain ⟨d,z,ne,ob,mA,n,r,q⟩ := (show ObjOk P w H h a (.ins C dx fs) from hok a _ e)
  exact ⟨mA,⟨ob,n,ne⟩,r,q,z,d⟩
end
structure Cls (K : PySem.W.Frag) (C : Addr) : Prop where
  pg : PySem.W.plainGet K C Str.empty = true
  hd : PySem.W.hasDictIn K C = true
  po : PySem.W.plainOver K C = true
  sa : PySem.W.findIn K (.ref C) "__setattr__" = some (some (.builtin "object.__setattr__"))
theorem Cls.get {K : PySem.W.Frag} {C : Addr} (c : Cls K C) (f : Str) : PySem.W.plainGet K C f = true := c.pg
section
variable {X : Cx} {pins : List (Addr × Obj)} {σ : St} {H : Hp} {s : Shared} {a C dx : Addr} {fs : List (Str × V)} {f : Str} {v : V} {A : Around} {E : Value → Shared → Prop}
end
section
variable {X : Cx} {o e value : Expr} {f : Str} {pos pos' tpos : Pos} {ta tv : TE}
end
section
variable {X : Cx} {pins : List (Addr × Obj)} {σ : St} {H : Hp} {s : Shared} {A : Around} {E : Value → Shared → Prop} {Q : Value → Shared → Prop} {c : Value} {b : Bool}
inductive TyOf (K : PySem.W.Frag) (H : Hp) : V → Value → Prop where
  | non : TyOf K H .non (.type "NoneType")
  | bl (x : Bool) : TyOf K H (.bl x) (.type "bool")
  | int (i : Int) : TyOf K H (.int i) (.type "int")
  | str (x : Str) : TyOf K H (.str x) (.type "str")
  | flt (x : UInt64) : TyOf K H (.flt x) (.type "float")
  | lst {a : Addr} {xs : List V} (e : H a = some (.lst xs)) : TyOf K H (.ref a) (.type "list")
  | frz {a : Addr} {o : Obj} {xs : List V} (e : H a = some (.frz o (.lst xs))) : TyOf K H (.ref a) (.type "list")
  | tup {a : Addr} {xs : List V} (e : H a = some (.tup xs)) : TyOf K H (.ref a) (.type "tuple")
  | dK {a : Addr} {kvs : List (Key × V)} (e : H a = some (.dK kvs)) : TyOf K H (.ref a) (.type "dict")
  | dT {a : Addr} {kvs : List (List Key × V)} (e : H a = some (.dT kvs)) : TyOf K H (.ref a) (.type "dict")
  | ins {a C dx : Addr} {fs : List (Str × V)} (e : H a = some (.ins C dx fs)) (cl : Cls K C) (ha : PySem.W.findIn K (.ref C) "__class__" = some (some (.builtin "object.__class__")))
      (hn : PySem.W.specialIn K (.builtin "object.__class__") "__get__" = some (some (.builtin "getset_descriptor.__get__"))) (htk : PySem.W.takesIn K (.builtin "object.__class__") = some true)
      (hm : PySem.W.mroIn K C (.type "object") = some true) : TyOf K H (.ref a) (.ref C)
theorem isinst_ok {x : V} {u t : Value} (I : Inv X pins σ H s) (rx : RelV x u) (ty : TyOf X.K H x t) (e : PySem.W.kitOne X.K t c = some b) (h : ∀ tk,Q (.bool b) { s with toks := tk }) :
    wpAny (model X.prog X.w) A (call (.builtin "isinstance") [u,c]) Q E s := by
  cases ty with
  | non => cases (show u = Value.none from rx); exact PySem.W.kia_one PySem.W.kitx_none I.kIn True.intro e (fun z => nomatch z) h
  | bl y => cases (show u = Value.bool y from rx); exact PySem.W.kia_one PySem.W.kitx_bool I.kIn True.intro e (fun z => nomatch z) h
  | int i => obtain ⟨t,q⟩ := (show ∃ t,u = Value.int i t from rx); cases q; exact PySem.W.kia_one PySem.W.kitx_int I.kIn True.intro e (fun z => nomatch z) h
  | str y => obtain ⟨t,q⟩ := (show ∃ t,u = Value.str y t from rx); cases q; exact PySem.W.kia_one PySem.W.kitx_str I.kIn True.intro e (fun z => nomatch z) h
  | flt y => obtain ⟨t,q⟩ := (show ∃ t,u = Value.float y t from rx); cases q; exact PySem.W.kia_one PySem.W.kitx_float I.kIn True.intro e (fun z => nomatch z) h
  | @lst a xs ea =>
    cases (show u = Value.ref a from rx)
    obtain ⟨_,_,n,_,h1⟩ := (show ObjOk X.prog X.w H s.heap a (.lst xs) from I.hok a _ ea)
    exact PySem.W.kia_one PySem.W.kitx_list I.kIn ⟨_,h1,rfl⟩ e (fun z => nomatch z) h
  | @frz a ob xs ea =>
    cases (show u = Value.ref a from rx)
    obtain ⟨_,_,_,n,_,h1⟩ := (show ObjOk X.prog X.w H s.heap a (.frz ob (.lst xs)) from I.hok a _ ea)
    exact PySem.W.kia_one PySem.W.kitx_list I.kIn ⟨_,h1,rfl⟩ e (fun z => nomatch z) h
  | @tup a xs ea =>
    cases (show u = Value.ref a from rx)
    obtain ⟨_,_,_,p⟩ := (show ObjOk X.prog X.w H s.heap a (.tup xs) from I.hok a _ ea)
    obtain ⟨o,h1,h2,_⟩ := p
    exact PySem.W.kia_one PySem.W.kitx_tuple I.kIn ⟨o,h1,h2⟩ e (fun z => nomatch z) h
  | @dK a kvs ea =>
    cases (show u = Value.ref a from rx)
    obtain ⟨_,_,vs,_,p⟩ := (show ObjOk X.prog X.w H s.heap a (.dK kvs) from I.hok a _ ea)
    obtain ⟨o,es,ep,h1,h2,_⟩ := p
    exact PySem.W.kia_one PySem.W.kitx_dict I.kIn ⟨o,h1,h2.1⟩ e (fun z => nomatch z) h
  | @dT a kvs ea =>
    cases (show u = Value.ref a from rx)
    obtain ⟨_,_,xs,_,o,es,ep,h1,h2,_⟩ := (show ObjOk X.prog X.w H s.heap a (.dT kvs) from I.hok a _ ea)
    exact PySem.W.kia_one PySem.W.kitx_dict I.kIn ⟨o,h1,h2.1⟩ e (fun z => nomatch z) h
  | @ins a C dx fs ea cl ha hn htk hm =>
    cases (show u = Value.ref a from rx)
    obtain ⟨mA,O,_⟩ := ins_get I.hok ea
    obtain ⟨od,J,_⟩ := O.look
    exact PySem.W.kia_one (PySem.W.kitx_own (cl.get _) cl.hd ha hn htk hm) I.kIn J e (fun z => nomatch z) h
end
end L2
namespace L2
open PySem PySem.Spec PyProof.Rows
structure Room (k : Nat) (A : Around) : Prop where
  hd : A.handled = none
  dp : A.depth + 3 * k + 5 < recursionLimit
  un : A.units + 16 * k + 200 < cLine
  gd : A.guards = some []
theorem Room.mono {j k : Nat} {A : Around} (r : Room k A) (h : j ≤ k) : Room j A := ⟨r.hd,by have := r.dp; omega,by have := r.un; omega,r.gd⟩
theorem Room.deeper {k : Nat} {A : Around} (r : Room (k + 1) A) (env : Env) : Room k (A.deeper env) :=
  ⟨r.hd,by have := r.dp; show A.depth + 1 + 3 * k + 5 < _; omega,by have := r.un; show A.units + 3 + 16 * k + 200 < _; omega,r.gd⟩
theorem Room.depth {k : Nat} {A : Around} (r : Room k A) : A.depth < recursionLimit := by have := r.dp; omega
theorem Room.units {k : Nat} {A : Around} (r : Room k A) : A.units + 64 < cLine := by have := r.un; omega
theorem Room.units0 {k : Nat} {A : Around} (r : Room k A) : A.units < cLine := by have := r.un; omega
def tNil : TA := fun _ H Q => Q [] H
def tCons (ta : TE) (tr : TA) : TA := fun σ H Q => ta σ H fun x H1 => tr σ H1 fun xs H2 => Q (x :: xs) H2
section
variable {X : Cx} {e : Expr} {es : List Expr} {te : TE} {t : TA} {pos : Pos}
theorem pa_nil : PA X [] tNil := fun _ _ _ _ H Q I h => Calls.spliced_nil ⟨[],H,I,.nil,h⟩
theorem pa_cons (ha : PE X e te) (hr : PA X es t) (hs : starEach (e :: es) X.env = (false,eval e X.env) :: starEach es X.env := by rfl) : PA X (e :: es) (tCons te t) := by
  intro pos pins s σ H Q I h
  rw [hs]
  show wpAny _ _ (spliced ((false,eval e X.env) :: backTo pos (starEach es X.env))) _ _ s
  refine Calls.spliced_cons (thn (ha pins s σ H _ I h) fun u s1 ⟨x,H1,I1,r1,q1⟩ => ?_)
  exact thn (hr pos pins s1 σ H1 _ I1 q1) fun us s2 ⟨xs,H2,I2,r2,q2⟩ => ⟨x :: xs,H2,I2,.cons r1 r2,q2⟩
def tTup (t : TA) : TE := fun σ H Q => t σ H fun xs H1 => xs.length ≤ sizeLine ∧ ∀ p,H1 p = none → Q (.ref p) (upd H1 p (.tup xs))
theorem pe_tup {x1} (h : PA X es t) : PE X (.Tuple es x1 pos) (tTup t) := by
  intro pins s σ H Q I hq
  refine wpAny_Tuple_spliced (thn (h pos pins s σ H _ I hq) fun us s1 ⟨xs,H1,I1,r,z,q⟩ => ⟨by rw [← r.length]; exact z,?_⟩)
  have hf : H1 s1.heap.objs.size = none := I1.hok.fresh (Nat.le_refl _)
  refine ⟨.ref s1.heap.objs.size,upd H1 s1.heap.objs.size (.tup xs),I1.laid (t' := s1.toks) (fun b u e => Heap.get?_push_of_some _ e) (Nat.le_refl _) ?_,rfl,q _ hf⟩
  exact ⟨z,us,r,⟨_,Heap.get?_push_size _ rfl,rfl,_,rfl⟩⟩
end
abbrev Sp := List V → Hp → VK → XK → Prop
abbrev CXT := List Env → Hp → Shared → XK → Value → Shared → Prop
structure Env0 (P : Program) (w : World) (K : PySem.W.Frag) (mg : Str → Option Value) (base : Heap) (A : Around) (outer : List Env) (s : Shared) (H : Hp) : Prop where
  frames : A.frames = some outer
  mod : Mod K mg base
  bs : ∀ b o,base.get? b = some o → s.heap.get? b = some o ∧ H b = none
  bsz : base.objs.size ≤ s.heap.objs.size
  funs : s.heap.FunFrames base outer
  frf : ∀ b ∈ frs outer,H b = none
  hok : HOk P w H s.heap
  bare : AllBare s.gens
def CE (outer : List Env) (P : Program) (w : World) (H : Hp) (s : Shared) (Q : VK) (u : Value) (s' : Shared) : Prop :=
  ∃ v H',s'.os = s.os ∧ AllBare s'.gens ∧ Un (frs outer) [] H H' s.heap s'.heap ∧ HOk P w H' s'.heap ∧ RelV v u ∧ Q v H'
def CR (CX : CXT) (outer : List Env) (P : Program) (w : World) (H : Hp) (s : Shared) (Q : VK) (E : XK) (r : Result) (s' : Shared) : Prop :=
  match r with
  | .ok (.ret u) => CE outer P w H s Q u s'
  | .ok _ => False
  | .error e => CX outer H s E e s'
structure FnOk (P : Program) (w : World) (K : PySem.W.Frag) (mg : Str → Option Value) (base : Heap) (CX : CXT) (k : Nat) (f : Addr) (fd : FuncData) (ps : List Str) (sp : Sp) : Prop where
  len : ∀ vs H Q E,sp vs H Q E → vs.length = ps.length
  run : ∀ (A : Around) (outer : List Env) (s : Shared) (H : Hp) (args : Args) (us : List Value) (vs : List V) (Q : VK) (E : XK),Room k A → Env0 P w K mg base A outer s H → BindsTo s fd args (ps.zip us) → Vals vs us → sp vs H Q E →
    codeAny (model P w) A (.call (.ref f) args) (CR CX outer P w H s Q E) s
section
variable {X : Cx} {pins : List (Addr × Obj)} {σ : St} {H : Hp} {s s' : Shared}
theorem Inv.env0 (I : Inv X pins σ H s) : Env0 X.prog X.w X.K X.mg X.base X.A X.stack s H :=
  ⟨I.ok.frames,I.ok.mod,I.bs,Nat.le_trans I.ok.bsz I.sz,I.stack,I.stkFree,I.hok,I.bare⟩
theorem Inv.after {Q : VK} {u : Value} (I : Inv X pins σ H s) (h : CE X.stack X.prog X.w H s Q u s') : EP X pins σ Q u s' := by
  obtain ⟨v,H',os,bare,un,hok,r,q⟩ := h
  obtain ⟨hh,g,d,t,os'⟩ := s'
  obtain rfl : os' = s.os := os
  exact ⟨v,H',I.call (h' := hh) (g' := g) (d' := d) (t' := t) (ch := []) un hok bare (fun b z => absurd z (by simp)),r,q⟩
end
def tCall (sp : Sp) (dvs : List V) (E : XK) (t : TA) : TE := fun σ H Q => t σ H fun vs H1 => sp (vs ++ dvs) H1 Q E
def Binds (K : PySem.W.Frag) (fd : FuncData) (ps : List Str) (ds : List Value) : Prop :=
  ∀ (s : Shared) (us : List Value),K.In s.heap → (us ++ ds).length = ps.length → BindsTo s fd ⟨us,[]⟩ (ps.zip (us ++ ds))
theorem Binds.all {K : PySem.W.Frag} {fd : FuncData} {ps : List Str} (h : ∀ us : List Value,us.length = ps.length → bindArgs fd ⟨us,[]⟩ = pure (ps.zip us)) : Binds K fd ps [] := fun s us _ hl => by
  rw [List.append_nil] at hl ⊢
  exact .of_eq (h us hl)
def Passes (CX : CXT) (X : Cx) (E : XK) : Prop := ∀ (pins : List (Addr × Obj)) (σ : St) (H : Hp) (s : Shared) (e : Value) (s' : Shared),Inv X pins σ H s → CX X.stack H s E e s' → X.xe e s'
section
variable {X : Cx} {CX : CXT} {k : Nat} {f C : Addr} {fd : FuncData} {ps : List Str} {sp : Sp} {dvs : List V} {ds : List Value} {E : XK} {x m : Str} {p pos apos : Pos} {e o : Expr} {es : List Expr} {ta : TE} {t : TA}
theorem run_fn {pins : List (Addr × Obj)} {σ : St} {H : Hp} {s : Shared} {Q : VK} {us : List Value} {vs : List V} (F : FnOk X.prog X.w X.K X.mg X.base CX k f fd ps sp) (hr : Room k X.A) (hb : Binds X.K fd ps ds) (hd : Vals dvs ds) (hx : Passes CX X E)
    (I : Inv X pins σ H s) (r : Vals vs us) (h : sp (vs ++ dvs) H Q E) : wpAny (model X.prog X.w) X.A (call (.ref f) us) (EP X pins σ Q) X.xe s := by
  have r2 : Vals (vs ++ dvs) (us ++ ds) := r.append hd
  have hl : (us ++ ds).length = ps.length := by rw [← r2.length]; exact F.len _ _ _ _ h
  refine wpAny_call (codeAny_mono (F.run X.A X.stack s H ⟨us,[]⟩ (us ++ ds) (vs ++ dvs) Q E hr I.env0 (hb s us I.kIn hl) r2 h) fun r s' hq => ?_)
  cases r with
  | error e => exact hx pins σ H s e s' I hq
  | ok fl =>
    cases fl with
    | ret u => exact I.after hq
    | next => exact False.elim hq
    | brk => exact False.elim hq
    | cont => exact False.elim hq
theorem pe_call (F : FnOk X.prog X.w X.K X.mg X.base CX k f fd ps sp) (hr : Room k X.A) (hg : Gl X x) (hm : X.mg x = some (.ref f)) (hk : PySem.W.keepIn X.K (.ref f) = true) (hb : Binds X.K fd ps ds) (hd : Vals dvs ds) (hx : Passes CX X E)
    (ha : PA X (e :: es) t) (hdb : (x == ("__debug__" : Str)) = false := by decide) (he : starEach (e :: es) X.env = (false,eval e X.env) :: starEach es X.env := by rfl) (hpl : (backTo pos (starEach es X.env)).any (·.1) = false := by rfl) :
    PE X (.Call (.Name x p) (e :: es) [] pos) (tCall sp dvs E t) := by
  intro pins s σ H Q I h
  refine wpAny_Call_Name_kw (ld_glob I hg hm ?_ hdb)
  refine PySem.W.callWith_K (h₀ := X.base) I.ok.mod.kin hk (thn (ha pos pins s σ H _ I h) fun us s1 ⟨vs,H1,I1,r,q⟩ => ⟨I1.kIn,?_⟩) he hpl
  exact run_fn F hr hb hd hx I1 r q
end
section
variable {X : Cx} {CX : CXT} {k : Nat} {f C : Addr} {fd : FuncData} {ps ks : List Str} {sp : Sp} {E : XK} {x m : Str} {p pos apos kpos : Pos} {e o : Expr} {es : List Expr} {kws : List Keyword} {te ta : TE} {t tk : TA} {nm : Option Str}
variable {g : List Value → List Value → List Value} {gV : List V → List V → List V}
end
structure FnScope (N P : List Str) (sc : Scope) : Prop where
  kind : sc.kind = .function
  co : sc.isCoroutine = false
  gen : sc.isGenerator = false
  nd : N.Nodup
  pre : N.take P.length = P
  par : ∀ x ∈ P,sc.names.lookup x = some .local ∨ sc.names.lookup x = some .cell
  nofree : ∀ y ∈ sc.names,y.2 ≠ .free
theorem bindL_out {kindOf : Str → Option NameKind} {x : Str} : ∀ {binds : List (Str × Value)} {m : Str → Option Value},(∀ v,(x,v) ∉ binds) → bindL kindOf binds m x = m x
  | [],_,_ => rfl
  | (n,v) :: r,m,h => by
    unfold bindL
    rw [bindL_out fun w hw => h w (List.mem_cons_of_mem _ hw)]
    split
    · have : x ≠ n := by rintro rfl; exact h v List.mem_cons_self
      simp [this]
    · rfl
theorem bindC_out {kindOf : Str → Option NameKind} {x : Str} : ∀ {binds : List (Str × Value)} {m : Str → Option Value},(∀ v,(x,v) ∉ binds) → bindC kindOf binds m x = m x
  | [],_,_ => rfl
  | (n,v) :: r,m,h => by
    unfold bindC
    rw [bindC_out fun w hw => h w (List.mem_cons_of_mem _ hw)]
    split
    · rfl
    · have : x ≠ n := by rintro rfl; exact h v List.mem_cons_self
      simp [this]
theorem bindL_get {kindOf : Str → Option NameKind} {x : Str} {v : Value} : ∀ {P : List Str} {vs : List Value} {i : Nat} {m : Str → Option Value},P.Nodup → P[i]? = some x → vs[i]? = some v → kindOf x = some .local →
    bindL kindOf (P.zip vs) m x = some v
  | [],_,_,_,_,h,_,_ => by simp at h
  | _ :: _,[],_,_,_,_,h,_ => by simp at h
  | p :: P,w :: vs,0,m,nd,h1,h2,hk => by
    simp at h1 h2; subst h1; subst h2
    show bindL kindOf ((p,w) :: P.zip vs) m p = _
    unfold bindL
    rw [bindL_out fun v hv => (List.nodup_cons.mp nd).1 (List.of_mem_zip hv).1,if_pos hk]
    simp
  | p :: P,w :: vs,i + 1,m,nd,h1,h2,hk => by
    show bindL kindOf ((p,w) :: P.zip vs) m x = _
    unfold bindL
    exact bindL_get (i := i) (List.nodup_cons.mp nd).2 (by simpa using h1) (by simpa using h2) hk
theorem bindC_get {kindOf : Str → Option NameKind} {x : Str} {v : Value} : ∀ {P : List Str} {vs : List Value} {i : Nat} {m : Str → Option Value},P.Nodup → P[i]? = some x → vs[i]? = some v → kindOf x ≠ some .local →
    bindC kindOf (P.zip vs) m x = some v
  | [],_,_,_,_,h,_,_ => by simp at h
  | _ :: _,[],_,_,_,_,h,_ => by simp at h
  | p :: P,w :: vs,0,m,nd,h1,h2,hk => by
    simp at h1 h2; subst h1; subst h2
    show bindC kindOf ((p,w) :: P.zip vs) m p = _
    unfold bindC
    rw [bindC_out fun v hv => (List.nodup_cons.mp nd).1 (List.of_mem_zip hv).1,if_neg hk]
    simp
  | p :: P,w :: vs,i + 1,m,nd,h1,h2,hk => by
    show bindC kindOf ((p,w) :: P.zip vs) m x = _
    unfold bindC
    exact bindC_get (i := i) (List.nodup_cons.mp nd).2 (by simpa using h1) (by simpa using h2) hk
def start (N : List Str) (vs : List V) : St := vs.map some ++ List.replicate (N.length - vs.length) none
def cxOf (CX : CXT) (P : Program) (w : World) (K : PySem.W.Frag) (mg : Str → Option Value) (base : Heap) (N : List Str) (qual : Str) (scope : Scope) (f : Addr) (cd : Value) (A : Around) (outer : List Env) (s : Shared) (H : Hp) (E : XK) : Cx where
  prog := P
  w := w
  K := K
  mg := mg
  base := base
  A := A.deeper (envOfC qual scope s.heap.objs.size f cd)
  N := N
  s₀ := s
  H₀ := H
  env := envOfC qual scope s.heap.objs.size f cd
  outer := outer
  stack := envOfC qual scope s.heap.objs.size f cd :: outer
  ex := []
  calm := true
  fn := fun _ => true
  pn := []
  xe := fun e s' => wpAny (model P w) (A.deeper (envOfC qual scope s.heap.objs.size f cd)) (leaving (envOfC qual scope s.heap.objs.size f cd) e) (fun _ s'' => CX outer H s E e s'') (fun e' s'' => CX outer H s E e' s'') s'
theorem cell_has {sc : Scope} {n : Nat} {x : Str} (h : sc.names.lookup x = some .cell) : ∃ c,(cellsFrom n sc.names []).lookup x = some c := by
  have q := PySem.W.cellsFrom_some sc.names n [] (.inl h)
  exact Option.isSome_iff_exists.mp q
theorem inv_start {CX : CXT} {P : Program} {w : World} {K : PySem.W.Frag} {mg : Str → Option Value} {base : Heap} {N ps : List Str} {qual : Str} {scope : Scope} {f : Addr} {cd : Value} {A : Around} {outer : List Env} {s s1 : Shared} {H : Hp} {E : XK} {us : List Value} {vs : List V}
    (S : FnScope N ps scope) (hd : A.handled = none) (e0 : Env0 P w K mg base A outer s H) (hl : vs.length = ps.length) (r : Vals vs us)
    (x : InCallC s s.heap.objs.size (bindL (envOfC qual scope s.heap.objs.size f cd).kindOf (ps.zip us) fun _ => none) (cellsFrom (s.heap.objs.size + 1) scope.names []) (bindC (envOfC qual scope s.heap.objs.size f cd).kindOf (ps.zip us) fun _ => none) s1) :
    Inv (cxOf CX P w K mg base N qual scope f cd A outer s H E) [] (start N vs) H s1 := by
  have hpl : ps.length ≤ N.length := by have := congrArg List.length S.pre; rw [List.length_take] at this; omega
  obtain ⟨h1,tk,rfl,hk⟩ := x.done
  have noA : ∀ b : Addr,b ∉ (cxOf CX P w K mg base N qual scope f cd A outer s H E).ex := fun b z => absurd (show b ∈ ([] : List Addr) from z) (by simp)
  refine ⟨⟨e0.mod,S.kind,rfl,rfl,Nat.le_refl _,fun y z c h1 h2 => ?_,fun y hy => ?_,fun y c _ h => ?_,fun _ => hd,Around.frames_deeper e0.frames,.inr ⟨rfl,rfl⟩,fun b z => absurd z (noA b),e0.bs,e0.bsz,fun b _ _ => noA b,fun b z => absurd z (noA b),e0.funs,e0.frf⟩,
    rfl,e0.bare,Un.kept hk,⟨_,x.toInCall.ns,fun i y v h1 h2 h3 => ?_⟩,fun y c h => ⟨_,x.cell y c h⟩,e0.hok.fresh (Nat.le_refl _),fun y c h => ?_,fun p hp => absurd (show p ∈ ([] : List (Addr × Obj)) from hp) (by simp),e0.hok.kept hk,?_⟩
  · exact name_of_addr x.apart (PySem.mem_of_lookup h1) (PySem.mem_of_lookup h2)
  · have hy : scope.names.lookup y = some .cell ∨ scope.names.lookup y = some .free := hy
    rcases hy with hy | hy
    · exact cell_has hy
    · exact absurd rfl (S.nofree _ (PySem.mem_of_lookup hy))
  · exact Nat.le_of_lt (x.above y c (PySem.mem_of_lookup h))
  · have hi : i < vs.length := by
      unfold start at h2
      by_cases hi : i < vs.length
      · exact hi
      · rw [List.getElem?_append_right (by simpa using hi)] at h2
        rw [List.getElem?_replicate] at h2
        split at h2 <;> cases h2
    have ha : vs[i]? = some v := by
      unfold start at h2
      rw [List.getElem?_append_left (by simpa using hi),List.getElem?_map] at h2
      cases e : vs[i]? with
      | none => rw [e] at h2; cases h2
      | some a => rw [e] at h2; cases h2; rfl
    obtain ⟨u,hu,rv⟩ := r.get ha
    have hp : ps[i]? = some y := by
      rw [← S.pre,List.getElem?_take_of_lt (by omega)]; exact h1
    have ndP : ps.Nodup := by rw [← S.pre]; exact S.nd.sublist (List.take_sublist _ _)
    refine ⟨u,rv,?_⟩
    rcases S.par y (List.mem_of_getElem? hp) with k | k
    · exact .inl ⟨k,bindL_get ndP hp hu k⟩
    · obtain ⟨c,e⟩ := cell_has (n := s.heap.objs.size + 1) k
      refine .inr ⟨.inl k,c,e,?_⟩
      have q := x.cell y c e
      rw [bindC_get ndP hp hu (by show scope.names.lookup y ≠ _; rw [k]; decide)] at q
      exact q
  · exact e0.hok.fresh (Nat.le_of_lt (x.above y c (PySem.mem_of_lookup h)))
  · unfold start
    show _ = N.length
    rw [List.length_append,List.length_map,List.length_replicate]
    omega
theorem fn_of {CX : CXT} {P : Program} {w : World} {K : PySem.W.Frag} {mg : Str → Option Value} {base : Heap} {k : Nat} {f : Addr} {name qual : Str} {params : Arguments} {body : List Stmt} {scope : Scope} {dV kV doc pm cdv ct oc : Value} {an od : Option Addr}
    {osl : Array (Option Value)} {N ps : List Str} {sp : Sp} (lk : K.lookup f = some ⟨oc,od,.func (PySem.W.fnOf name qual params body scope dV kV doc pm an cdv ct),osl⟩) (hcd : PySem.W.codeIn K cdv qual = true) (S : FnScope N ps scope)
    (len : ∀ vs H Q E,sp vs H Q E → vs.length = ps.length)
    (hbody : ∀ (A : Around) (outer : List Env) (s : Shared) (H : Hp) (vs : List V) (Q : VK) (E : XK),Room k (A.deeper (envOfC qual scope s.heap.objs.size f cdv)) → sp vs H Q E →
      ∃ t,PSs (cxOf CX P w K mg base N qual scope f cdv A outer s H E) body t ∧ t { nx := fun _ H' => Q .non H',rt := Q } (start N vs) H) :
    FnOk P w K mg base CX (k + 1) f (PySem.W.fnOf name qual params body scope dV kV doc pm an cdv ct) ps sp := by
  refine ⟨len,fun A outer s H args us vs Q E hr e0 hb r hsp => ?_⟩
  have hl := len _ _ _ _ hsp
  have KX : K.In s.heap := e0.mod.kin.keeps fun b o e => (e0.bs b o e).1
  have lim : s.heap.NoLimit := e0.mod.nolimit.keeps fun b o e => (e0.bs b o e).1
  have hkind : ∀ y ∈ ps.zip us,scope.names.lookup y.1 = some .local ∨ (scope.names.lookup y.1 = some .cell ∧ ((cellsFrom (s.heap.objs.size + 1) scope.names []).lookup y.1).isSome = true) := fun ⟨n,v⟩ hy => by
    rcases S.par n (List.of_mem_zip hy).1 with q | q
    · exact .inl q
    · exact .inr ⟨q,PySem.W.cellsFrom_some _ _ _ (.inl q)⟩
  refine codeAny_call_function hr.depth (KX _ _ lk) rfl S.co S.gen rfl (PySem.W.codeRec_of KX hcd) (hb _ _ _ _ ?_)
  refine wpAny_newFunctionEnv_cells S.kind hkind fun env he s1 x => ?_
  subst he
  refine ⟨lim.keeps x.toInCall.keep,codeAny_func ?_⟩
  obtain ⟨t,ht,hq⟩ := hbody A outer s H vs Q E (hr.deeper _) hsp
  have I : Inv (cxOf CX P w K mg base N qual scope f cdv A outer s H E) [] (start N vs) H s1 := inv_start S hr.hd e0 hl r x
  refine wpAny_mono (ht [] s1 (start N vs) H _ I hq) (fun fl s' hs => ?_) fun e s' hs => hs
  have fin : ∀ {σ' : St} {H' : Hp} {v : V} {u : Value},Inv (cxOf CX P w K mg base N qual scope f cdv A outer s H E) [] σ' H' s' → RelV v u → Q v H' → CE outer P w H s Q u s' :=
    fun {σ' H' v u} J rv q => ⟨v,H',J.os,J.bare,J.base,J.hok,rv,q⟩
  cases fl with
  | ret u =>
    obtain ⟨v,σ',H',J,rv,q⟩ := hs
    exact fin J rv q
  | next =>
    obtain ⟨σ',H',J,q⟩ := hs
    exact fin (v := V.non) (u := Value.none) J rfl q
  | brk =>
    obtain ⟨_,_,_,q⟩ := hs
    exact False.elim q
  | cont =>
    obtain ⟨_,_,_,q⟩ := hs
    exact False.elim q
end L2
namespace L2
open PySem PySem.Spec PyProof.Rows
section
variable {X : Cx} {x : Str} {p pos : Pos} {e : Expr} {es : List Expr} {t : TA} {id T : String} {r : List V → Hp → VK → Prop}
def tCB (r : List V → Hp → VK → Prop) (t : TA) : TE := fun σ H Q => t σ H fun vs H1 => r vs H1 Q
theorem pe_callB (hc : CallR X (.builtin id) r) (hg : Gl X x) (hm : X.mg x = none) (hv : bootBuiltins x = some (.builtin id)) (ha : PA X (e :: es) t) (hn : x ≠ "__name__" := by decide) (hdb : (x == ("__debug__" : Str)) = false := by decide)
    (he : starEach (e :: es) X.env = (false,eval e X.env) :: starEach es X.env := by rfl) (hpl : (backTo pos (starEach es X.env)).any (·.1) = false := by rfl) : PE X (.Call (.Name x p) (e :: es) [] pos) (tCB r t) := by
  intro pins s σ H Q I h
  refine wpAny_Call_Name_kw (ld_blt I hg hm hv ?_ hn hdb)
  exact PyProof.Rows.callWith_builtin1 (thn (ha pos pins s σ H _ I h) fun us s1 ⟨vs,H1,I1,r1,q1⟩ => hc pins s1 σ H1 vs us Q I1 r1 q1) he hpl
theorem pe_callTy (hc : CallR X (.type T) r) (hg : Gl X x) (hm : X.mg x = none) (hv : bootBuiltins x = some (.type T)) (ha : PA X (e :: es) t) (hn : x ≠ "__name__" := by decide) (hdb : (x == ("__debug__" : Str)) = false := by decide)
    (he : starEach (e :: es) X.env = (false,eval e X.env) :: starEach es X.env := by rfl) (hpl : (backTo pos (starEach es X.env)).any (·.1) = false := by rfl) : PE X (.Call (.Name x p) (e :: es) [] pos) (tCB r t) := by
  intro pins s σ H Q I h
  refine wpAny_Call_Name_kw (ld_blt I hg hm hv ?_ hn hdb)
  exact PyProof.Rows.callWith_type1 (thn (ha pos pins s σ H _ I h) fun us s1 ⟨vs,H1,I1,r1,q1⟩ => hc pins s1 σ H1 vs us Q I1 r1 q1) he hpl
end
end L2
namespace HT
open PySem PyProof.Rows
section
open PySem.SeqAt
open PySem.AutoSeq1 (wpAny_loadPart')
open PySem.MeetsSeq PySem.MeetsSeq2 PySem.MeetsSeq3
end
section
variable {prog : Program} {w : World} {A : Around} {E : Value → Shared → Prop} {s : Shared}
def sIx (n d : Nat) : Option Int → Nat
  | none => d
  | some v => if v < 0 then (v + (n : Int)).toNat else min v.toNat n
theorem sIx_none (n d : Nat) : sIx n d none = d := rfl
theorem sIx_nat (n d k : Nat) : sIx n d (some (k : Int)) = min k n := by
  show (if (k : Int) < 0 then ((k : Int) + (n : Int)).toNat else min (k : Int).toNat n) = min k n
  rw [if_neg (by omega),Int.toNat_natCast]
theorem sIx_le (n d : Nat) (hd : d ≤ n) (o : Option Int) : sIx n d o ≤ n := by
  cases o with
  | none => exact hd
  | some v =>
    show (if v < 0 then (v + (n : Int)).toNat else min v.toNat n) ≤ n
    by_cases hv : v < 0
    · rw [if_pos hv]; omega
    · rw [if_neg hv]; exact Nat.min_le_right _ _
theorem clip_eq (v : Int) (n d : Nat) : (if v < 0 then max (v + (n : Int)) 0 else min v (n : Int)) = ((sIx n d (some v) : Nat) : Int) := by
  show (if v < 0 then max (v + (n : Int)) 0 else min v (n : Int)) = (((if v < 0 then (v + (n : Int)).toNat else min v.toNat n) : Nat) : Int)
  by_cases hv : v < 0
  · simp only [if_pos hv]; omega
  · simp only [if_neg hv]; omega
theorem adjust_gen (lo hi : Option Int) (n : Nat) : Builtin.Slice.sliceAdjust lo hi 1 (n : Int) = (((sIx n 0 lo : Nat) : Int),((sIx n n hi : Nat) : Int)) := by
  have h1 : ¬ ((1 : Int) < 0) := by omega
  unfold Builtin.Slice.sliceAdjust
  simp only [h1,if_false]
  refine Prod.ext ?_ ?_
  · cases lo with
    | none => rfl
    | some v => exact clip_eq v n 0
  · cases hi with
    | none => rfl
    | some v => exact clip_eq v n n
theorem places_gen (i j : Nat) : Builtin.Slice.slicePlaces (i : Int) (j : Int) 1 = j - i := by
  unfold Builtin.Slice.slicePlaces
  have h1 : (1 : Int) > 0 := by omega
  simp only [h1,if_true,Int.ediv_one]
  split <;> omega
theorem slicePart_ {v : Value} {o : Option Int} {Q : Option Int → Shared → Prop} (p : IsPart v o) (h : Q o s) : wpAny (model prog w) A (Builtin.Slice.slicePartIndex v) Q E s := by
  cases p with
  | none => exact slicePart_none h
  | int i t => exact slicePart_int h
theorem sliceApplied_gen {sl : Addr} {vl vu : Value} {lo hi : Option Int} {n : Nat} {Q : Int × Int × Nat → Shared → Prop} (hs : s.heap.IsSliceOf sl vl vu .none) (pl : IsPart vl lo) (pu : IsPart vu hi)
    (h : Q (((sIx n 0 lo : Nat) : Int),1,sIx n n hi - sIx n 0 lo) s) : wpAny (model prog w) A (Builtin.Slice.sliceApplied (.ref sl) (pure (n : Int))) Q E s := by
  obtain ⟨os,hos,hcs,hds⟩ := id hs
  unfold Builtin.Slice.sliceApplied Builtin.Slice.sliceFields
  refine wpAny_bind (wpAny_bind (wpAny_field hos hds (x := vl) rfl (wpAny_bind (wpAny_field hos hds (x := vu) rfl (wpAny_bind (wpAny_field hos hds (x := .none) rfl (wpAny_pure ?_)))))))
  refine wpAny_bind (slicePart_none ?_)
  show wpAny _ _ (if ((1 : Int) == 0) = true then _ else _) _ _ s
  rw [if_neg (by decide)]
  refine wpAny_bind (slicePart_ pl (wpAny_bind (slicePart_ pu (wpAny_bind (wpAny_pure ?_)))))
  show wpAny _ _ (match Builtin.Slice.sliceAdjust lo hi 1 (n : Int) with | (lo,hi) => pure (lo,(1 : Int),Builtin.Slice.slicePlaces lo hi 1)) _ _ s
  rw [adjust_gen lo hi n]
  show wpAny _ _ (pure (((sIx n 0 lo : Nat) : Int),(1 : Int),Builtin.Slice.slicePlaces ((sIx n 0 lo : Nat) : Int) ((sIx n n hi : Nat) : Int) 1)) _ _ s
  rw [places_gen]
  exact wpAny_pure h
theorem pick_gen (xs : Array Value) (i k : Nat) : ((List.range k).filterMap fun (m : Nat) => xs[((i : Int) + (m : Int) * 1).toNat]?).toArray = ((xs.toList.drop i).take k).toArray := by
  have e : (fun (m : Nat) => xs[((i : Int) + (m : Int) * 1).toNat]?) = fun m => xs[i + m]? := by
    funext m
    have : ((i : Int) + (m : Int) * 1).toNat = i + m := by omega
    rw [this]
  rw [e]
  have := pick_run xs i k
  rw [List.filterMap_map] at this
  have e2 : ((fun x => xs[x]?) ∘ fun x => i + x) = fun m => xs[i + m]? := rfl
  rw [e2] at this
  rw [this]
theorem getItem_tuple_cut {t sl : Addr} {items : Array Value} {vl vu : Value} {lo hi : Option Int} {Q : Value → Shared → Prop} (ht : IsTup s.heap t items) (hs : s.heap.IsSliceOf sl vl vu .none) (pl : IsPart vl lo) (pu : IsPart vu hi)
    (hw : ¬ (sIx items.size 0 lo = 0 ∧ sIx items.size items.size hi = items.size))
    (h : Q (.ref s.heap.objs.size) { s with heap := s.heap.push { cls := .type "tuple",data := .seq ((items.toList.drop (sIx items.size 0 lo)).take (sIx items.size items.size hi - sIx items.size 0 lo)).toArray } })
    (hsz : items.size ≤ sizeLine) : wpAny (model prog w) A (getItem (.ref t) (.ref sl)) Q E s := by
  have htake : sizeOk (.seq ((items.toList.drop (sIx items.size 0 lo)).take (sIx items.size items.size hi - sIx items.size 0 lo)).toArray) := by
    show ((items.toList.drop (sIx items.size 0 lo)).take (sIx items.size items.size hi - sIx items.size 0 lo)).toArray.size ≤ sizeLine
    rw [List.size_toArray,List.length_take,List.length_drop,Array.length_toList]
    omega
  have hj : sIx items.size items.size hi ≤ items.size := sIx_le _ _ (Nat.le_refl _) hi
  obtain ⟨os,hos,hcs,hds⟩ := id hs
  have hTs : s.TypeIs (.ref sl) "slice" := ⟨os,hos,hcs⟩
  unfold getItem
  try with_reducible refine wpAny_holding ?_
  first | refine wpAny_bind (wpAny_pure ?_) | skip
  refine wpAny_bind (wpAny_sequenceKey ht.typeIs (by decide) ?_)
  refine wpAny_bind (wpAny_callSpecial?_slot (name := Str.ofString "__getitem__") ht.typeIs PyProof.Rows.slot_tuple_getitem
    (wpAny_call_entry PyProof.Rows.slot_tuple_getitem ht.typeIs entry_tuple_getitem ?_ (args_tuple_getitem _ _)))
  show wpAny _ _ (Builtin.Tuple.tupleItemsOf (.ref t) >>= _) _ _ s
  refine wpAny_bind (tupleItemsOf_ ht ?_)
  refine wpAny_bind (wpAny_typeOf hTs ?_)
  rw [if_pos (by decide)]
  refine wpAny_bind (sliceApplied_gen hs pl pu ?_)
  have hno : ¬ ((((sIx items.size 0 lo : Nat) : Int) == 0 && (1 : Int) == 1 && (sIx items.size items.size hi - sIx items.size 0 lo) == items.size) = true) := by
    intro q
    rw [Bool.and_eq_true,Bool.and_eq_true] at q
    have q1 : ((sIx items.size 0 lo : Nat) : Int) = 0 := eq_of_beq q.1.1
    have q2 : sIx items.size items.size hi - sIx items.size 0 lo = items.size := eq_of_beq q.2
    exact hw ⟨by omega,by omega⟩
  show wpAny _ _ (if (((sIx items.size 0 lo : Nat) : Int) == 0 && (1 : Int) == 1 && (sIx items.size items.size hi - sIx items.size 0 lo) == items.size) = true then _ else _) _ _ s
  rw [if_neg hno,pick_gen]
  first
    | exact wpAny_bind (m := Builtin.Tuple.tupleExact _) (wpAny_newObj_type (wpAny_pure ⟨_,rfl,wpAny_pure h⟩) htake)
    | exact wpAny_bind (m := Builtin.Tuple.tupleExact _) (wpAny_newObj_type (wpAny_bind (wpAny_pure (wpAny_pure ⟨_,rfl,wpAny_pure h⟩))) htake)
    | exact wpAny_bind (wpAny_bind (m := Builtin.Tuple.tupleExact _) (wpAny_newObj_type (wpAny_pure (wpAny_pure ⟨_,rfl,wpAny_pure h⟩)) htake))
    | exact wpAny_bind (wpAny_bind (m := Builtin.Tuple.tupleExact _) (wpAny_newObj_type (wpAny_pure ⟨_,rfl,wpAny_pure h⟩) htake))
end
end HT
namespace L2
open PySem PySem.Spec PyProof.Rows
abbrev TO := St → Hp → (Option Int → Hp → Prop) → Prop
def PO (X : Cx) (e : Option Expr) (t : TO) : Prop :=
  ∀ (pins : List (Addr × Obj)) (s : Shared) (σ : St) (H : Hp) (Q : Option Int → Hp → Prop),Inv X pins σ H s → t σ H Q →
    wpAny (model X.prog X.w) X.A (evalPart e X.env) (fun u s' => ∃ o H',Inv X pins σ H' s' ∧ IsPart u o ∧ Q o H') X.xe s
def tNoPart : TO := fun _ H Q => Q none H
def tPart (t : TE) : TO := fun σ H Q => t σ H fun x H1 => ∃ i,x = .int i ∧ Q (some i) H1
section
variable {X : Cx} {e : Expr} {te : TE} {lo hi : Option Expr} {tl th : TO} {pos p2 : Pos}
theorem po_none : PO X none tNoPart := by
  intro pins s σ H Q I h
  rw [evalPart_none]
  exact wpAny_pure ⟨none,H,I,.none,h⟩
theorem po_some (h : PE X e te) : PO X (some e) (tPart te) := by
  intro pins s σ H Q I hw
  rw [evalPart_some]
  refine thn (h pins s σ H _ I hw) fun u s1 ⟨x,H1,I1,r1,q1⟩ => ?_
  obtain ⟨i,rfl,q⟩ := q1
  obtain ⟨t,rfl⟩ := r1
  exact ⟨some i,H1,I1,.int i t,q⟩
def SlR (X : Cx) (r : V → Option Int → Option Int → Hp → VK → Prop) : Prop :=
  ∀ (pins : List (Addr × Obj)) (s : Shared) (σ : St) (H : Hp) (x : V) (v vl vu : Value) (lo hi : Option Int) (sl : Addr) (Q : VK),Inv X pins σ H s → RelV x v → s.heap.IsSliceOf sl vl vu .none → IsPart vl lo → IsPart vu hi → r x lo hi H Q →
    ∃ T id,typeLookup (.type T) "__getitem__" = pure (some (.builtin id)) ∧ s.TypeIs v T ∧ wpAny (model X.prog X.w) X.A (getItem v (.ref sl)) (EP X pins σ Q) X.xe s
def tSl (r : V → Option Int → Option Int → Hp → VK → Prop) (te : TE) (tl th : TO) : TE := fun σ H Q => te σ H fun x H1 => tl σ H1 fun l H2 => th σ H2 fun u H3 => r x l u H3 Q
theorem pe_slice {r : V → Option Int → Option Int → Hp → VK → Prop} (hr : SlR X r) (he : PE X e te) (hl : PO X lo tl) (hu : PO X hi th) : PE X (.Subscript e (.Slice lo hi none p2) pos) (tSl r te tl th) := by
  intro pins s σ H Q I h
  refine Subscript_ (thn (he pins s σ H _ I h) fun v s1 ⟨x,H1,I1,r1,q1⟩ => ?_)
  refine wpAny_Slice (thn (hl pins s1 σ H1 _ I1 q1) fun vl s2 ⟨l,H2,I2,pl,q2⟩ => thn (hu pins s2 σ H2 _ I2 q2) fun vu s3 ⟨u,H3,I3,pu,q3⟩ => ?_)
  rw [evalPart_none]
  refine wpAny_pure ?_
  have I4 : Inv X pins σ H3 { s3 with heap := s3.heap.push { cls := .type "slice",data := .fields #[vl,vu,.none] } } := I3.kept (t' := s3.toks) fun b ob q => Heap.get?_push_of_some _ q
  obtain ⟨T,id,hT,ht,hg⟩ := hr pins { s3 with heap := s3.heap.push { cls := .type "slice",data := .fields #[vl,vu,.none] } } σ H3 x v vl vu l u s3.heap.objs.size Q I4 r1 (Heap.IsSliceOf.new ..) pl pu q3
  show wpAny (model X.prog X.w) X.A (subscriptTail e (.Slice lo hi none p2) v (.ref s3.heap.objs.size)) (EP X pins σ Q) X.xe { s3 with heap := s3.heap.push { cls := .type "slice",data := .fields #[vl,vu,.none] } }
  exact tail_any (ops := [.ref s3.heap.objs.size,v]) ht hT hg (by with_unfolding_all rfl)
def cutV (xs : List V) (lo hi : Option Int) : List V := (xs.drop (HT.sIx xs.length 0 lo)).take (HT.sIx xs.length xs.length hi - HT.sIx xs.length 0 lo)
theorem cutV_length (xs : List V) (lo hi : Option Int) : (cutV xs lo hi).length ≤ xs.length := by
  unfold cutV
  rw [List.length_take,List.length_drop]
  omega
def rSlT (K : PySem.W.Frag) : V → Option Int → Option Int → Hp → VK → Prop := fun x lo hi H Q => ∃ a xs,x = .ref a ∧ SqT K H a xs ∧
  ¬ (HT.sIx xs.length 0 lo = 0 ∧ HT.sIx xs.length xs.length hi = xs.length) ∧ ∀ p,H p = none → Q (.ref p) (upd H p (.tup (cutV xs lo hi)))
theorem sl_tup : SlR X (rSlT X.K) := by
  intro pins s σ H x v vl vu lo hi sl Q I rx hs pl pu h
  obtain ⟨a,xs,rfl,hx,hw,q⟩ := h
  cases rx
  obtain ⟨its,r,ht,hz⟩ := I.tuple hx
  have hlen : its.toArray.size = xs.length := by rw [List.size_toArray]; exact r.length.symm
  refine ⟨"tuple",_,PyProof.Rows.slot_tuple_getitem.lookup,ht.typeIs,?_⟩
  refine HT.getItem_tuple_cut ht hs pl pu (by rw [hlen]; exact hw) ?_ (by rw [hlen]; exact hz)
  rw [hlen]
  refine ⟨.ref s.heap.objs.size,_,I.laid (t' := s.toks) (o := .tup (cutV xs lo hi)) (fun b ob q => Heap.get?_push_of_some _ q) (Nat.le_refl _) ?_,rfl,q _ (I.hok.fresh (Nat.le_refl _))⟩
  exact ⟨Nat.le_trans (cutV_length xs lo hi) hz,_,(r.drop (HT.sIx xs.length 0 lo)).take (HT.sIx xs.length xs.length hi - HT.sIx xs.length 0 lo),IsTup.new _ _⟩
end
end L2
namespace L2
open PySem PySem.Spec PyProof.Rows
def ixN (n : Nat) (i : Int) : Option Nat := if 0 ≤ i then (if i < n then some i.toNat else none) else if -(n : Int) ≤ i then some (i + n).toNat else none
def atI {α : Type} (xs : List α) (i : Int) : Option α := (ixN xs.length i).bind fun j => xs[j]?
theorem ixN_seq {n : Nat} {i : Int} {j : Nat} (h : ixN n i = some j) : seqIndex? i n = some j ∧ j < n ∧ -(n : Int) ≤ i ∧ i < n := by
  unfold ixN at h
  by_cases h0 : 0 ≤ i
  · rw [if_pos h0] at h
    by_cases h1 : i < n
    · rw [if_pos h1] at h
      have e : i.toNat = j := Option.some.inj h
      exact ⟨by rw [seqIndex_of h0 h1,e],by omega,by omega,h1⟩
    · rw [if_neg h1] at h; cases h
  · rw [if_neg h0] at h
    by_cases h1 : -(n : Int) ≤ i
    · rw [if_pos h1] at h
      have e : (i + n).toNat = j := Option.some.inj h
      exact ⟨by rw [seqIndex_neg (by omega) h1,e],by omega,h1,by omega⟩
    · rw [if_neg h1] at h; cases h
theorem atI_get {α : Type} {xs : List α} {i : Int} {v : α} (h : atI xs i = some v) : ∃ j,seqIndex? i xs.length = some j ∧ xs[j]? = some v ∧ j < xs.length ∧ -(xs.length : Int) ≤ i ∧ i < xs.length := by
  unfold atI at h
  cases e : ixN xs.length i with
  | none => rw [e] at h; cases h
  | some j =>
    rw [e] at h
    obtain ⟨h1,h2,h3,h4⟩ := ixN_seq e
    exact ⟨j,h1,h,h2,h3,h4⟩
theorem atI_nat {α : Type} {xs : List α} {j : Nat} {v : α} (h : xs[j]? = some v) : atI xs (j : Int) = some v := by
  have hj : j < xs.length := (List.getElem?_eq_some_iff.mp h).1
  have e : ixN xs.length (j : Int) = some j := by
    unfold ixN
    rw [if_pos (by omega),if_pos (by omega)]; simp
  unfold atI; rw [e]; exact h
theorem atI_last {α : Type} (xs : List α) (v : α) : atI (xs ++ [v]) (-1) = some v := by
  have hl : (xs ++ [v]).length = xs.length + 1 := by simp
  have e : ixN (xs ++ [v]).length (-1) = some xs.length := by
    unfold ixN
    rw [hl,if_neg (by decide),if_pos (by omega)]
    congr 1
    omega
  unfold atI
  rw [e]
  show (xs ++ [v])[xs.length]? = some v
  simp
def PlainIx (b : Expr) : Prop := ∀ o i,subscripted b false o i = operate [o,i] (getItem o i)
def IxR (X : Cx) (r : R2) : Prop :=
  ∀ (value slice : Expr) (pins : List (Addr × Obj)) (s : Shared) (σ : St) (H : Hp) (x y : V) (v u : Value) (Q : VK),Inv X pins σ H s → RelV x v → RelV y u → r x y H Q →
    subscripted slice false v u = operate [v,u] (getItem v u) → wpAny (model X.prog X.w) X.A (subscriptTail value slice v u) (EP X pins σ Q) X.xe s
def MtR (X : Cx) (id : String) (r : V → List V → Hp → VK → Prop) : Prop :=
  ∀ (pins : List (Addr × Obj)) (s : Shared) (σ : St) (H : Hp) (x : V) (xs : List V) (v : Value) (us : List Value) (Q : VK),Inv X pins σ H s → RelV x v → Vals xs us → r x xs H Q →
    wpAny (model X.prog X.w) X.A (call (.builtin id) (v :: us)) (EP X pins σ Q) X.xe s
section
variable {X : Cx} {a b : Expr} {ta tb : TE} {pos : Pos}
theorem pe_ix {r : R2} (hr : IxR X r) (ha : PE X a ta) (hb : PE X b tb) (hs : PlainIx b) : PE X (.Subscript a b pos) (tOp r ta tb) := by
  intro pins s σ H Q I h
  exact Subscript_ (binT ha hb I h fun v u s2 x y H2 I2 rx ry q => hr a b pins s2 σ H2 x y v u Q I2 rx ry q (hs _ _))
def rIxL (K : PySem.W.Frag) : R2 := fun x y H Q => ∃ p xs i v,x = .ref p ∧ y = .int i ∧ SqL K H p xs ∧ atI xs i = some v ∧ Q v H
def rIxT (K : PySem.W.Frag) : R2 := fun x y H Q => ∃ p xs i v,x = .ref p ∧ y = .int i ∧ SqT K H p xs ∧ atI xs i = some v ∧ Q v H
theorem ix_list : IxR X (rIxL X.K) := by
  intro value slice pins s σ H x y v u Q I rx ry h hs
  obtain ⟨p,xs,i,z,rfl,rfl,hq,he,q⟩ := h
  cases rx
  obtain ⟨t,rfl⟩ := ry
  obtain ⟨its,r,pl,hz⟩ := I.list hq
  obtain ⟨j,h1,h2,h3,h4,h5⟩ := atI_get he
  obtain ⟨w,ew,rw'⟩ := r.get h2
  have hl := r.length
  have hn := line63
  have fin : EP X pins σ Q w s := ⟨z,H,I,rw',q⟩
  by_cases h0 : 0 ≤ i
  · have hj : i.toNat = j := by
      rw [seqIndex_of h0 h5] at h1
      exact Option.some.inj h1
    exact item_listR pl.isList h0 (by omega) (by rw [hj]; simpa using ew) fin hs
  · have hj : (i + (its.toArray.size : Int)).toNat = j := by
      rw [seqIndex_neg (by omega) h4] at h1
      rw [List.size_toArray,← hl]
      exact Option.some.inj h1
    exact subscriptTail_builtinR (x := w) pl.isList.typeIs slot_list_getitem.lookup
      (wpAny_getItem_list_neg (Q := fun r s' => r = w ∧ EP X pins σ Q r s') pl.isList (by omega) (by rw [List.size_toArray] <;> omega) (by omega) (by rw [hj]; simpa using ew) ⟨rfl,fin⟩) hs
theorem ix_tup : IxR X (rIxT X.K) := by
  intro value slice pins s σ H x y v u Q I rx ry h hs
  obtain ⟨p,xs,i,z,rfl,rfl,hq,he,q⟩ := h
  cases rx
  obtain ⟨t,rfl⟩ := ry
  obtain ⟨its,r,pl,hz⟩ := I.tuple hq
  obtain ⟨j,h1,h2,h3,h4,h5⟩ := atI_get he
  obtain ⟨w,ew,rw'⟩ := r.get h2
  have hl := r.length
  have hn := line63
  have fin : EP X pins σ Q w s := ⟨z,H,I,rw',q⟩
  exact subscriptTail_builtinR (x := w) pl.typeIs slot_tuple_getitem.lookup
    (getItem_tuple (j := j) (Q := fun r s' => r = w ∧ EP X pins σ Q r s') pl (by omega) (by omega) (by rw [List.size_toArray,← hl]; exact h1) (by simpa using ew) ⟨rfl,fin⟩) hs
theorem mapSeq_set (its : List Value) (n j : Nat) (u : Value) : Obj.mapSeq (·.setIfInBounds j u) { cls := .type "list",data := .seq its.toArray n } = { cls := .type "list",data := .seq (its.set j u).toArray n } := by
  simp [Obj.mapSeq]
theorem Inv.lst {pins : List (Addr × Obj)} {σ : St} {H : Hp} {s : Shared} {p : Addr} {xs : List V} (I : Inv X pins σ H s) (h : H p = some (.lst xs)) :
    ∃ (its : List Value) (n : Nat),Vals xs its ∧ s.heap.get? p = some { cls := .type "list",data := .seq its.toArray n } ∧ xs.length ≤ sizeLine := by
  obtain ⟨z,its,n,r,e⟩ := I.hok p _ h
  exact ⟨its,n,r,e,z⟩
theorem Inv.lstUpd {pins : List (Addr × Obj)} {σ : St} {H : Hp} {s : Shared} {p : Addr} {xs ys : List V} {its its' : List Value} {n n' : Nat} {f : Obj → Obj} (I : Inv X pins σ H s) (h : H p = some (.lst xs))
    (ho : s.heap.get? p = some { cls := .type "list",data := .seq its.toArray n }) (hf : f { cls := .type "list",data := .seq its.toArray n } = { cls := .type "list",data := .seq its'.toArray n' }) (r : Vals ys its') (hz : ys.length ≤ sizeLine) (t : Nat) :
    Inv X pins σ (upd H p (.lst ys)) { s with heap := s.heap.update p f,toks := t } := by
  have e : (s.heap.update p f).get? p = some { cls := .type "list",data := .seq its'.toArray n' } := by
    rw [Heap.get?_update_self f ho (by rw [hf] <;> rfl),hf]
  refine I.write (x := p) (e := p) (by rw [h]; trivial) (.inl rfl) (fun b u hb q => (Heap.get?_update_other _ _ (Ne.symm hb)).trans q) ⟨_,e⟩ ?_
  exact ⟨hz,its',n',r,e⟩
def rSetL : V → V → V → Hp → (Hp → Prop) → Prop := fun o i v H Q => ∃ p xs k j,o = .ref p ∧ i = .int k ∧ H p = some (.lst xs) ∧ ixN xs.length k = some j ∧ Q (upd H p (.lst (xs.set j v)))
theorem set_list : PSet X rSetL := by
  intro pins s σ H o i v ov iv u Q I ro ri rv h
  obtain ⟨p,xs,k,j,rfl,rfl,hp,hj,q⟩ := h
  cases ro
  obtain ⟨t,rfl⟩ := ri
  obtain ⟨its,n,r,ho,hz⟩ := I.lst hp
  obtain ⟨h1,h2,h3,h4⟩ := ixN_seq hj
  have hl := r.length
  have hn := line63
  have I' : Inv X pins σ (upd H p (.lst (xs.set j v))) { s with heap := s.heap.update p (Obj.mapSeq (·.setIfInBounds j u)) } :=
    I.lstUpd hp ho (mapSeq_set its n j u) (r.set rv j) (by rw [List.length_set]; exact hz) s.toks
  by_cases h0 : 0 ≤ k
  · have hk : k.toNat = j := by
      rw [seqIndex_of h0 h4] at h1
      exact Option.some.inj h1
    exact PySem.W.ki_setAt ho h0 (by omega) (by rw [List.size_toArray,← hl]; exact h4) (by rw [hk]; exact ⟨_,I',q⟩)
  · have hk : (k + (its.toArray.size : Int)).toNat = j := by
      rw [seqIndex_neg (by omega) h3] at h1
      rw [List.size_toArray,← hl]
      exact Option.some.inj h1
    exact PySem.W.ki_setBack ho (by omega) (by rw [List.size_toArray,← hl]; exact h3) (by omega) (by rw [hk]; exact ⟨_,I',q⟩)
theorem slice_bounds (lo hi : Option Int) (n : Nat) : (sliceBounds lo hi none n).1 = ((HT.sIx n 0 lo : Nat) : Int) ∧ (sliceBounds lo hi none n).2.1 = ((HT.sIx n n hi : Nat) : Int) ∧ (sliceBounds lo hi none n).2.2 = 1 := by
  refine ⟨?_,?_,rfl⟩
  · cases lo with
    | none => simp [sliceBounds,HT.sIx]
    | some i =>
      simp only [sliceBounds,HT.sIx,Option.getD_none,show (1 : Int) > 0 by decide,if_true]
      by_cases h : i < 0
      · simp only [h,if_true] <;> omega
      · simp only [h,if_false] <;> omega
  · cases hi with
    | none => simp [sliceBounds,HT.sIx]
    | some i =>
      simp only [sliceBounds,HT.sIx,Option.getD_none,show (1 : Int) > 0 by decide,if_true]
      by_cases h : i < 0
      · simp only [h,if_true] <;> omega
      · simp only [h,if_false] <;> omega
theorem slicePick_cut (its : List Value) (lo hi : Option Int) : slicePick its.toArray lo hi none = ((its.drop (HT.sIx its.length 0 lo)).take (HT.sIx its.length its.length hi - HT.sIx its.length 0 lo)).toArray := by
  obtain ⟨h1,h2,h3⟩ := slice_bounds lo hi its.toArray.size
  unfold slicePick
  rw [h1,h2,h3]
  simp only [sliceRange_one,pick_run,List.size_toArray] <;> rfl
def rSlL (K : PySem.W.Frag) : V → Option Int → Option Int → Hp → VK → Prop := fun x lo hi H Q => ∃ a xs,x = .ref a ∧ SqL K H a xs ∧ ∀ p,H p = none → Q (.ref p) (upd H p (.lst (cutV xs lo hi)))
theorem sl_list : SlR X (rSlL X.K) := by
  intro pins s σ H x v vl vu lo hi sl Q I rx hs pl pu h
  obtain ⟨a,xs,rfl,hx,q⟩ := h
  cases rx
  obtain ⟨its,r,ht,hz⟩ := I.list hx
  have hlen := r.length
  refine ⟨"list",_,slot_list_getitem.lookup,ht.isList.typeIs,?_⟩
  refine wpAny_getItem_list_slice ht.isList hs pl pu .none (by simp) ?_ (by rw [List.size_toArray] <;> omega)
  rw [slicePick_cut,← hlen]
  refine ⟨.ref s.heap.objs.size,_,I.laid (t' := s.toks) (o := .lst (cutV xs lo hi)) (fun b ob q => Heap.get?_push_of_some _ q) (Nat.le_refl _) ?_,rfl,q _ (I.hok.fresh (Nat.le_refl _))⟩
  exact ⟨Nat.le_trans (cutV_length xs lo hi) hz,_,0,(r.drop (HT.sIx xs.length 0 lo)).take (HT.sIx xs.length xs.length hi - HT.sIx xs.length 0 lo),Heap.get?_push_size _ rfl⟩
def flatV : V → Bool
  | .non => true
  | .bl _ => true
  | .int _ => true
  | .str _ => true
  | _ => false
def eqV : V → V → Bool
  | .non,.non => true
  | .bl a,.bl b => a == b
  | .bl a,.int b => (if a then 1 else 0) == b
  | .int a,.bl b => a == (if b then 1 else 0)
  | .int a,.int b => a == b
  | .str a,.str b => a == b
  | _,_ => false
theorem eqAt_V {A : Around} {s : Shared} {y x : V} {u v : Value} (ry : RelV y u) (rx : RelV x v) (fy : flatV y = true) (fx : flatV x = true) : SeqAt.EqAt A s u v (eqV y x) := by
  cases y with
  | non =>
    cases ry
    cases x with
    | non => cases rx; exact SeqAt.EqAt.same _
    | bl b => cases rx; exact SeqAt.EqAt.none_bool b
    | int b => obtain ⟨t,rfl⟩ := rx; exact SeqAt.EqAt.none_int b t
    | str b => obtain ⟨t,rfl⟩ := rx; exact SeqAt.EqAt.none_str b t
    | _ => exact absurd (show false = true from fx) Bool.false_ne_true
  | bl a =>
    cases ry
    cases x with
    | non => cases rx; exact SeqAt.EqAt.bool_none a
    | bl b => cases rx; exact SeqAt.EqAt.bool_bool a b
    | int b => obtain ⟨t,rfl⟩ := rx; exact SeqAt.EqAt.bool_int a b t
    | str b => obtain ⟨t,rfl⟩ := rx; exact SeqAt.EqAt.bool_str a b t
    | _ => exact absurd (show false = true from fx) Bool.false_ne_true
  | int a =>
    obtain ⟨t',rfl⟩ := ry
    cases x with
    | non => cases rx; exact SeqAt.EqAt.int_none a t'
    | bl b => cases rx; exact SeqAt.EqAt.int_bool a t' b
    | int b => obtain ⟨t,rfl⟩ := rx; exact SeqAt.EqAt.int_int a t' b t
    | str b => obtain ⟨t,rfl⟩ := rx; exact SeqAt.EqAt.int_str a t' b t
    | _ => exact absurd (show false = true from fx) Bool.false_ne_true
  | str a =>
    obtain ⟨t',rfl⟩ := ry
    cases x with
    | non => cases rx; exact SeqAt.EqAt.str_none a t'
    | bl b => cases rx; exact SeqAt.EqAt.str_bool a t' b
    | int b => obtain ⟨t,rfl⟩ := rx; exact SeqAt.EqAt.str_int a t' b t
    | str b => obtain ⟨t,rfl⟩ := rx; exact SeqAt.EqAt.str_str a t' b t
    | _ => exact absurd (show false = true from fx) Bool.false_ne_true
  | _ => exact absurd (show false = true from fy) Bool.false_ne_true
def eqU (x : V) (u : Value) : Bool := match u with
  | .none => eqV .non x
  | .bool b => eqV (.bl b) x
  | .int i _ => eqV (.int i) x
  | .str z _ => eqV (.str z) x
  | _ => false
theorem eqU_of {x y : V} {u : Value} (r : RelV y u) (f : flatV y = true) : eqU x u = eqV y x := by
  cases y with
  | non => cases r; rfl
  | bl b => cases r; rfl
  | int i => obtain ⟨t,rfl⟩ := r; rfl
  | str z => obtain ⟨t,rfl⟩ := r; rfl
  | _ => exact absurd (show false = true from f) Bool.false_ne_true
theorem any_eqU {x : V} : ∀ {xs : List V} {us : List Value},Vals xs us → xs.all flatV = true → us.any (eqU x) = xs.any fun y => eqV y x
  | _,_,.nil,_ => rfl
  | y :: xs,u :: us,.cons r t,f => by
    rw [List.all_cons,Bool.and_eq_true] at f
    rw [List.any_cons,List.any_cons,eqU_of r f.1,any_eqU t f.2]
theorem mem_eqAt {A : Around} {s : Shared} {x : V} {v : Value} (rx : RelV x v) (fx : flatV x = true) : ∀ {xs : List V} {us : List Value},Vals xs us → xs.all flatV = true → ∀ u ∈ us,SeqAt.EqAt A s u v (eqU x u)
  | _,_,.nil,_ => fun u hu => by cases hu
  | y :: xs,u :: us,.cons r t,f => fun u' hu => by
    rw [List.all_cons,Bool.and_eq_true] at f
    rcases List.mem_cons.mp hu with rfl | hu
    · rw [eqU_of r f.1]; exact eqAt_V r rx f.1 fx
    · exact mem_eqAt rx fx t f.2 u' hu
def inV (x : V) (xs : List V) : Bool := xs.any fun y => eqV y x
def rIn (K : PySem.W.Frag) (neg : Bool) : R2 := fun x y H Q => ∃ p xs,y = .ref p ∧ (SqL K H p xs ∨ SqT K H p xs) ∧ flatV x = true ∧ xs.all flatV = true ∧ Q (.bl (if neg then !inV x xs else inV x xs)) H
theorem op_notIn_seq : OpR X (compareOp .NotIn) (rIn X.K true) := by
  intro pins s σ H x y v u Q I rx ry h
  obtain ⟨p,xs,rfl,hq,fx,fs,q⟩ := h
  cases ry
  rcases hq with hq | hq
  · obtain ⟨its,r,pl,hz⟩ := I.list hq
    refine SeqAt.notIn_listAt (eqU x) pl.isList (fun w hw => mem_eqAt rx fx r fs w (by simpa using hw)) ⟨.bl _,H,I,rfl,?_⟩
    rw [show its.toArray.any (eqU x) = its.any (eqU x) by simp,any_eqU r fs]
    exact q
  · obtain ⟨its,r,pl,hz⟩ := I.tuple hq
    refine SeqAt.notIn_tupleAt (eqU x) pl (fun w hw => mem_eqAt rx fx r fs w (by simpa using hw)) ⟨.bl _,H,I,rfl,?_⟩
    rw [show its.toArray.any (eqU x) = its.any (eqU x) by simp,any_eqU r fs]
    exact q
theorem call_len_seq : CallR X (.builtin "len") (fun xs H Q => ∃ p ys,xs = [.ref p] ∧ (SqL X.K H p ys ∨ SqT X.K H p ys) ∧ Q (.int ys.length) H) := by
  intro pins s σ H xs us Q I r h
  obtain ⟨p,ys,rfl,hq,q⟩ := h
  obtain ⟨u,rfl,rx⟩ := vals1 r
  cases rx
  have hn := line63
  rcases hq with hq | hq
  · obtain ⟨its,r',pl,hz⟩ := I.list hq
    have hlen := r'.length
    exact Calls.call_len_list pl.isList (by simp only [List.size_toArray] <;> omega) ⟨.int ys.length,H,I.tok _,⟨s.toks + 1,by rw [List.size_toArray,hlen]⟩,q⟩
  · obtain ⟨its,r',pl,hz⟩ := I.tuple hq
    have hlen := r'.length
    exact len_tuple pl (by simp only [List.size_toArray] <;> omega) ⟨.int ys.length,H,I.tok _,⟨s.toks + 1,by rw [List.size_toArray,hlen]⟩,q⟩
theorem call_list_of : CallR X (.type "list") (fun xs H Q => ∃ p ys,xs = [.ref p] ∧ (SqL X.K H p ys ∨ SqT X.K H p ys) ∧ ∀ l,H l = none → Q (.ref l) (upd H l (.lst ys))) := by
  intro pins s σ H xs us Q I r h
  obtain ⟨p,ys,rfl,hq,q⟩ := h
  obtain ⟨u,rfl,rx⟩ := vals1 r
  cases rx
  have fin : ∀ (its : List Value),Vals ys its → ys.length ≤ sizeLine → ∀ (h' : Heap) (c' : Nat),(∀ b o',s.heap.get? b = some o' → h'.get? b = some o') →
      h'.get? s.heap.objs.size = some { cls := .type "list",dict := none,data := .seq its.toArray c',slots := #[] } → EP X pins σ Q (.ref s.heap.objs.size) { s with heap := h' } := fun its r' hz h' c' kp e =>
    ⟨.ref s.heap.objs.size,_,I.laid (t' := s.toks) kp (Nat.le_refl _) (show ObjOk X.prog X.w _ h' _ (.lst ys) from ⟨hz,its,c',r',e⟩),rfl,q _ (I.hok.fresh (Nat.le_refl _))⟩
  rcases hq with hq | hq
  · obtain ⟨its,r',pl,hz⟩ := I.list hq
    have hlen := r'.length
    obtain ⟨o,ho,hc,n,hd⟩ := pl.isList
    exact call_list_seq p (.inl rfl) ho hc hd (fun h' c' kp e => fin its r' hz h' c' kp e) (by simp only [List.size_toArray] <;> omega)
  · obtain ⟨its,r',pl,hz⟩ := I.tuple hq
    have hlen := r'.length
    obtain ⟨o,ho,hc,n,hd⟩ := pl
    exact call_list_seq p (.inr rfl) ho hc hd (fun h' c' kp e => fin its r' hz h' c' kp e) (by simp only [List.size_toArray] <;> omega)
theorem call_tuple_of : CallR X (.type "tuple") (fun xs H Q => ∃ p ys,xs = [.ref p] ∧ ((SqL X.K H p ys ∧ ∀ l,H l = none → Q (.ref l) (upd H l (.tup ys))) ∨ (SqT X.K H p ys ∧ Q (.ref p) H))) := by
  intro pins s σ H xs us Q I r h
  obtain ⟨p,ys,rfl,h⟩ := h
  obtain ⟨u,rfl,rx⟩ := vals1 r
  cases rx
  rcases h with ⟨hq,q⟩ | ⟨hq,q⟩
  · obtain ⟨its,r',pl,hz⟩ := I.list hq
    have hlen := r'.length
    refine call_tuple_list pl.isList (fun h' kp => ?_) (by simp only [List.size_toArray] <;> omega)
    have I1 : Inv X pins σ H { s with heap := h' } := I.kept (t' := s.toks) kp
    have I2 : Inv X pins σ (upd H h'.objs.size (.tup ys)) { s with heap := h'.push { cls := .type "tuple",data := .seq its.toArray } } :=
      I1.laid (t' := s.toks) (fun b o e => Heap.get?_push_of_some _ e) (Nat.le_refl _) (show ObjOk X.prog X.w _ _ _ (.tup ys) from ⟨hz,its,r',IsTup.new _ _⟩)
    exact ⟨.ref h'.objs.size,_,I2,rfl,q _ (I1.hok.fresh (Nat.le_refl _))⟩
  · obtain ⟨its,r',pl,hz⟩ := I.tuple hq
    exact call_tuple_same pl ⟨.ref p,H,I,rfl,q⟩
def tyV (K : PySem.W.Frag) (T : String) (x : V) (H : Hp) : Prop := match x with
  | .str _ => T = "str"
  | .int _ => T = "int"
  | .ref p => (T = "list" ∧ ∃ xs,SqL K H p xs) ∨ (T = "tuple" ∧ ∃ o,K.lookup p = some o ∧ o.cls = .type "tuple" ∧ o.dict = none) ∨
      (T = "dict" ∧ ((∃ kvs,H p = some (.dK kvs)) ∨ ∃ kvs,H p = some (.dT kvs))) ∨ (T = "set" ∧ ∃ S n,H p = some (.set S n))
  | _ => False
theorem tyV_is {pins : List (Addr × Obj)} {σ : St} {H : Hp} {s : Shared} {T : String} {x : V} {v : Value} (I : Inv X pins σ H s) (r : RelV x v) (ty : tyV X.K T x H) :
    s.TypeIs v T ∧ ∀ a,v = .ref a → ∃ ob,s.heap.get? a = some ob ∧ ob.dict = none := by
  cases x with
  | str z =>
    obtain ⟨t,rfl⟩ := r
    cases (show T = "str" from ty)
    exact ⟨typeIs_str s z t,fun _ e => nomatch e⟩
  | int i =>
    obtain ⟨t,rfl⟩ := r
    cases (show T = "int" from ty)
    exact ⟨typeIs_int s i t,fun _ e => nomatch e⟩
  | ref p =>
    cases r
    rcases ty with ⟨rfl,xs,hq⟩ | ⟨rfl,o,hk,hc,hd⟩ | ⟨rfl,hk⟩ | ⟨rfl,S,n,hk⟩
    · obtain ⟨its,_,pl,_⟩ := I.list hq
      refine ⟨pl.isList.typeIs,fun a e => ?_⟩
      cases e
      obtain ⟨o,n,e,c,hd,_⟩ := pl
      exact ⟨o,e,hd⟩
    · refine ⟨⟨o,I.kIn p o hk,hc⟩,fun a e => ?_⟩
      cases e
      exact ⟨o,I.kIn _ o hk,hd⟩
    · have z : ∃ o,s.heap.get? p = some o ∧ o.ExactDict := by
        rcases hk with ⟨kvs,hk⟩ | ⟨kvs,hk⟩
        · obtain ⟨_,_,_,_,o,_,_,e,ex,_⟩ := I.hok p _ hk
          exact ⟨o,e,ex⟩
        · obtain ⟨_,_,_,_,o,_,_,e,ex,_⟩ := I.hok p _ hk
          exact ⟨o,e,ex⟩
      obtain ⟨o,e,ex⟩ := z
      refine ⟨⟨o,e,ex.1⟩,fun a e2 => ?_⟩
      cases e2
      exact ⟨o,e,ex.2.1⟩
    · obtain ⟨o,_,_,_,e,ex,_⟩ := I.hok p _ hk
      refine ⟨⟨o,e,ex.1⟩,fun a e2 => ?_⟩
      cases e2
      exact ⟨o,e,ex.2.1⟩
  | _ => exact False.elim ty
def tBM (K : PySem.W.Frag) (T : String) (r : V → List V → Hp → VK → Prop) (to : TE) (t : TA) : TE := fun σ H Q => to σ H fun x H1 => tyV K T x H1 ∧ t σ H1 fun xs H2 => r x xs H2 Q
variable {o e : Expr} {es : List Expr} {to : TE} {t : TA} {name : Str} {apos cpos : Pos} {T id : String} {r : V → List V → Hp → VK → Prop}
theorem pe_bm (pa : PlainAttrs T) (slot : Slot T name id) (hty : typeOf (.builtin id) = pure (.type "method_descriptor")) (hm : MtR X id r) (ho : PE X o to) (ha : PA X (e :: es) t)
    (hbase : attributeBase o name X.env (eval o X.env) = eval o X.env := by rfl)
    (hfew : ((backTo cpos (starEach (e :: es) X.env)).all (fun x => !x.1) && (backToKw cpos (keywordEach [] X.env)).all (fun x => x.1.isSome)
      && decide ((e :: es).length + ([] : List Keyword).length + (if ([] : List Keyword).isEmpty then 0 else 1) < 30)) = true := by rfl)
    (hline : (apos.endLine == cpos.line) = true := by rfl) (hs : starEach (e :: es) X.env = (false,eval e X.env) :: starEach es X.env := by rfl) (hplain : (backTo cpos (starEach es X.env)).any (·.1) = false := by rfl) :
    PE X (.Call (.Attribute o name apos) (e :: es) [] cpos) (tBM X.K T r to t) := by
  intro pins s σ H Q I h
  refine wpAny_Call_method_late hbase hfew hline rfl (thn (ho pins s σ H _ I h) fun v s1 ⟨x,H1,I1,r1,ty,q1⟩ => ?_)
  obtain ⟨h1,h2⟩ := tyV_is I1 r1 ty
  refine ⟨T,id,pa,slot,hty,h1,h2,?_⟩
  have hA := ha cpos pins s1 σ H1 _ I1 q1
  rw [hs] at hA ⊢
  refine Calls.callWith_builtin (by show (false || (backTo cpos (starEach es X.env)).any (·.1)) = false; rw [hplain] <;> rfl) (Calls.evalArgs_plain ?_)
  exact thn hA fun us s2 ⟨vs,H2,I2,r2,q2⟩ => hm pins s2 σ H2 x vs v us Q I2 r1 r2 q2
end
end L2
namespace L2
open PySem PySem.Spec PyProof.Rows
def MtM (X : Cx) (id : String) (r : V → List V → Hp → VK → Prop) : Prop :=
  ∀ (pins : List (Addr × Obj)) (s : Shared) (σ : St) (H : Hp) (x : V) (xs : List V) (v : Value) (us : List Value) (Q : VK),Inv X pins σ H s → RelV x v → Vals xs us → r x xs H Q →
    wpAny (model X.prog X.w) X.A (call (.builtin id) (v :: us)) (EP X pins σ Q) X.xe s
theorem Vals.one : ∀ {x : V} {us : List Value},Vals [x] us → ∃ u,us = [u] ∧ RelV x u
  | _,_,.cons r .nil => ⟨_,rfl,r⟩
theorem Vals.reverse {xs : List V} {us : List Value} (h : Vals xs us) : Vals xs.reverse us.reverse := by
  induction h with
  | nil => exact .nil
  | cons r t ih => rw [List.reverse_cons,List.reverse_cons]; exact Vals.append ih (.cons r .nil)
theorem Vals.rep {xs : List V} {us : List Value} (h : Vals xs us) : ∀ k : Nat,Vals (List.replicate k xs).flatten (List.replicate k us).flatten
  | 0 => .nil
  | k + 1 => by
    rw [List.replicate_succ,List.replicate_succ,List.flatten_cons,List.flatten_cons]
    exact Vals.append h (Vals.rep h k)
theorem foldl_rep (its : List Value) : ∀ (k : Nat) (acc : List Value),
    List.foldl (fun x1 x2 => x1 ++ x2) acc.toArray (List.replicate k its.toArray) = (acc ++ (List.replicate k its).flatten).toArray
  | 0,acc => by simp
  | k + 1,acc => by
    have e : acc.toArray ++ its.toArray = (acc ++ its).toArray := by simp
    have e2 : (acc ++ its) ++ (List.replicate k its).flatten = acc ++ (List.replicate (k + 1) its).flatten := by
      rw [List.replicate_succ,List.flatten_cons,List.append_assoc]
    rw [← e2,← foldl_rep its k (acc ++ its),← e,List.replicate_succ,List.foldl_cons]
section
variable {X : Cx} {pins : List (Addr × Obj)} {σ : St} {H : Hp} {s : Shared} {l b : Addr} {xs ys zs : List V}
theorem Inv.lset {its its' : List Value} {n : Nat} {f : Array Value → Array Value} {t' : Nat} (I : Inv X pins σ H s) (hH : H l = some (.lst xs))
    (e : s.heap.get? l = some { cls := .type "list",data := .seq its.toArray n }) (hf : f its.toArray = its'.toArray) (hv : Vals ys its') (hz : ys.length ≤ sizeLine) :
    Inv X pins σ (upd H l (.lst ys)) { s with heap := s.heap.update l (Obj.mapSeq f),toks := t' } := by
  have q := PySem.IsL.update e f
  rw [hf] at q
  refine I.write (x := l) (e := l) (by rw [hH]; exact trivial) (.inl rfl) (fun b' u hb hu => (Heap.get?_update_other s.heap (Obj.mapSeq f) (Ne.symm hb)).trans hu) ⟨_,q⟩ ?_
  exact ⟨hz,its',_,hv,q⟩
theorem Inv.lnew {its : List Value} {t' : Nat} (I : Inv X pins σ H s) (hv : Vals ys its) (hz : ys.length ≤ sizeLine) :
    Inv X pins σ (upd H s.heap.objs.size (.lst ys)) { s with heap := s.heap.push { cls := .type "list",data := .seq its.toArray },toks := t' } :=
  I.laid (fun _ _ q => Heap.get?_push_of_some _ q) (Nat.le_refl _) ⟨hz,its,0,hv,Heap.get?_push_size _ rfl⟩
theorem Inv.fresh (I : Inv X pins σ H s) : H s.heap.objs.size = none := I.hok.fresh (Nat.le_refl _)
theorem Inv.lstM (I : Inv X pins σ H s) (hH : H l = some (.lst xs)) : xs.length ≤ sizeLine ∧ ∃ (its : List Value) (n : Nat),Vals xs its ∧ xs.length = its.length ∧ s.heap.get? l = some { cls := .type "list",data := .seq its.toArray n } := by
  obtain ⟨z,its,n,r,e⟩ := I.hok l _ hH
  exact ⟨z,its,n,r,r.length,e⟩
theorem notLongL {n : Nat} (h : n ≤ sizeLine) : Builtin.List.listTooLong n = false := by
  unfold Builtin.List.listTooLong
  exact decide_eq_false (by omega)
end
section
variable {X : Cx}
def rAppend : V → List V → Hp → VK → Prop := fun x vs H Q => ∃ l xs y,x = .ref l ∧ vs = [y] ∧ H l = some (.lst xs) ∧ xs.length < sizeLine ∧ Q .non (upd H l (.lst (xs ++ [y])))
theorem mt_append : MtM X "list.append" rAppend := by
  intro pins s σ H x vs v us Q I rx rv h
  obtain ⟨l,xs,y,rfl,rfl,hH,hz,q⟩ := h
  cases rx
  obtain ⟨u,rfl,ru⟩ := rv.one
  obtain ⟨z,its,n,r,hl,e⟩ := I.lstM hH
  refine call_meets F.slot_list_append ⟨_,e,rfl⟩ F.entry_list_append (F.args_list_append_2 _ _) (PySem.list_append l its.toArray n u (by rw [List.size_toArray]; omega)) ⟨e,?_⟩
  refine ⟨.non,_,I.lset (its' := its ++ [u]) hH e (by simp) (r.append (.cons ru .nil)) ?_,rfl,q⟩
  rw [List.length_append,List.length_singleton]
  omega
def rCat : R2 := fun x y H Q => ∃ l b xs zs,x = .ref l ∧ y = .ref b ∧ H l = some (.lst xs) ∧ H b = some (.lst zs) ∧ xs.length + zs.length ≤ sizeLine ∧ ∀ p,H p = none → Q (.ref p) (upd H p (.lst (xs ++ zs)))
theorem op_cat : OpR X (binaryOp .Add) rCat := by
  intro pins s σ H x y v u Q I rx ry h
  obtain ⟨l,b,xs,zs,rfl,rfl,hH,hB,hz,q⟩ := h
  cases rx
  cases ry
  obtain ⟨z,its,n,r,hl,e⟩ := I.lstM hH
  obtain ⟨z2,its2,n2,r2,hl2,e2⟩ := I.lstM hB
  refine PySem.P.add_list e e2 ?_ (by rw [List.size_toArray,List.size_toArray]; omega)
  have ea : its.toArray ++ its2.toArray = (its ++ its2).toArray := by simp
  rw [ea]
  exact ⟨.ref _,_,I.lnew (t' := s.toks) (r.append r2) (by rw [List.length_append]; omega),rfl,q _ I.fresh⟩
def rRep : R2 := fun x y H Q => ∃ l k xs,x = .ref l ∧ y = .int k ∧ H l = some (.lst xs) ∧ -(2 ^ 63) ≤ k ∧ k < 2 ^ 63 ∧ xs.length * k.toNat ≤ sizeLine ∧
  ∀ p,H p = none → Q (.ref p) (upd H p (.lst (List.replicate k.toNat xs).flatten))
theorem len_rep {α : Type} (xs : List α) (k : Nat) : (List.replicate k xs).flatten.length = k * xs.length := by
  induction k with
  | zero => simp
  | succ k ih => rw [List.replicate_succ,List.flatten_cons,List.length_append,ih,Nat.succ_mul,Nat.add_comm]
theorem op_rep : OpR X (binaryOp .Mult) rRep := by
  intro pins s σ H x y v u Q I rx ry h
  obtain ⟨l,k,xs,rfl,rfl,hH,h1,h2,hz,q⟩ := h
  cases rx
  obtain ⟨t,rfl⟩ := ry
  obtain ⟨z,its,n,r,hl,e⟩ := I.lstM hH
  have hlen : its.toArray.size * k.toNat ≤ sizeLine := by rw [List.size_toArray,← hl]; exact hz
  have hcap : ¬ its.toArray.size * k.toNat > (2 ^ 63 - 1) / 8 := by
    have : (sizeLine : Nat) ≤ (2 ^ 63 - 1) / 8 := by decide
    omega
  have hfit : ¬ (!Builtin.List.listFitsIndex k) = true := by
    rw [fitsIndex_both h1 h2]
    exact Bool.false_ne_true
  have hlong : ¬ Builtin.List.listTooLong (its.toArray.size * k.toNat) = true := by
    rw [notLongL hlen]
    exact Bool.false_ne_true
  have hnew : List.foldl (fun x1 x2 => x1 ++ x2) #[] (List.replicate (if its.toArray.isEmpty = true then 0 else k.toNat) its.toArray) = (List.replicate k.toNat its).flatten.toArray := by
    have f0 : ∀ m : Nat,List.foldl (fun x1 x2 => x1 ++ x2) #[] (List.replicate m its.toArray) = (List.replicate m its).flatten.toArray := fun m => by
      have := foldl_rep its m []
      rw [List.nil_append] at this
      exact this
    rw [f0]
    cases its with
    | nil => simp
    | cons a r' => rw [if_neg (by simp)]
  refine wpAny_binaryOp_repeat_ref (T := "list") (U := "int") (by decide) ⟨_,e,rfl⟩ (fun s' => typeIs_int s' k t) noFill_list_mul F.fills_int_mul F.slot_int_rmul repeat_list F.slot_int_index.lookup
    (call_meets F.slot_int_rmul (typeIs_int s k t) F.entry_int_rmul (F.args_int_rmul_2 _ _) (int___rmul___int_list k t l its.toArray n)
      ⟨e,rfl,⟨_,e,rfl⟩,call_meets F.slot_list_mul ⟨_,e,rfl⟩ F.entry_list_mul (F.args_list_mul_2 _ _) (AutoListH.list___mul___list_int_3 l its.toArray n k t hfit hcap hlong) ⟨e,?_⟩⟩)
  rw [hnew]
  exact ⟨.ref _,_,I.lnew (t' := s.toks) (r.rep k.toNat) (by rw [len_rep,Nat.mul_comm]; exact hz),rfl,q _ I.fresh⟩
end
section
variable {prog : Program} {w : World} {A : Around} {E : Value → Shared → Prop} {s : Shared}
set_option maxRecDepth 100000 in
end
section
variable {X : Cx}
end
end L2
namespace Att
open PySem PySem.W PySem.Calls PyProof.Rows
theorem ints_of_wellAll {P : Params} {h : Heap} : ∀ (ns : List Int) (vs : List Value),WellAll P h vs (ns.map WData.int) → IntsAre vs ns := by
  intro ns
  induction ns with
  | nil =>
    intro vs w
    rw [List.map_nil] at w
    cases w
    exact .nil
  | cons n ns ih =>
    intro vs w
    rw [List.map_cons] at w
    cases w with
    | cons a b =>
      cases a
      exact .cons _ _ (ih _ b)
theorem script_of {l : OpenLaw} {n : Nat} (hn : l.most = some n) {P : Params} {h : Heap} {args : List WData} {vals : List Value}
    (hpre : l.row.toRowW.claim.pre args = true) (hwl : WellAll P h vals args) :
    ∃ a vs ns,vals = [Value.ref a] ∧ args = [WData.list (ns.map WData.int)] ∧ h.get? a = some { cls := .type "list",data := .seq vs.toArray } ∧ IntsAre vs ns ∧ ns.length ≤ n := by
  have hsh : WShape.hasAll [] args [.list .int] = true := (pre_splitW hpre).1
  have hc : l.pre.holds [] { args := args } = true := (pre_splitW hpre).2
  obtain ⟨d,r,rfl,h1,h2⟩ := hasAllW_cons hsh
  obtain rfl := hasAllW_nil h2
  obtain ⟨xs,rfl,h3⟩ := hasW_list h1
  obtain ⟨ns,rfl⟩ := items_int h3
  have hlen : ns.length ≤ n := by
    unfold OpenLaw.pre at hc
    have h4 : (WTm.not (.lt (.lit (.int (n : Int))) (.len (.arg 0)))).holds [] { args := [.list (ns.map .int)] } = true := by
      have h4 := (holds_andW hc).1
      rw [hn] at h4
      exact h4
    have h5 := condW_of h4 (w_not (w_lt w_lit (w_len_list (w_arg rfl))))
    rw [List.length_map] at h5
    refine Nat.le_of_not_lt fun q => ?_
    have q' : (n : Int) < ((ns.length : Nat) : Int) := by omega
    first
      | (rw [decide_eq_true q'] at h5; exact absurd h5 (by decide))
      | (simp at h5; omega)
  cases hwl with
  | cons w1 w2 =>
    cases w2
    cases w1 with
    | list ho hall => exact ⟨_,_,ns,rfl,rfl,ho,ints_of_wellAll ns _ hall,hlen⟩
theorem post_true (l : OpenLaw) (args : List WData) : l.row.toRowW.claim.post args (.bool true) args = true :=
  postW_of (r := l.row.toRowW) (X := (true == true))
    (show WShape.has [] (.bool true) .bool = true by first | rfl | decide | simp [WShape.has,WShape.arms,WShape.armsAll])
    (show (WTm.eq .res (.lit (.bool true))).value [] { args := args,res := some (.bool true),after := args } = some (.bool (true == true)) from w_eq_bool (w_res rfl) w_lit) rfl
theorem attach_call {l : OpenLaw} {n : Nat} {q : Program} {loose : List Str} {XP : (Str → Option Value) → Heap → Prop} {YP : World → Heap → Prop} {d : DefRec}
    (hn : l.most = some n) (hdf : d.params.defaults = [])
    (call : ∀ (w : World) (s₀ s₁ : Shared) (mg mb : Str → Option Value) (fa : Addr) (o : Obj) (pm cd doc : Value) (a : Addr) (vs : List Value) (ns : List Int),
      Ground q loose [] XP w s₀ mg mb s₁.heap → YP w s₁.heap →
      s₁.heap.get? fa = some o → o.data = .func (docDef d.name d.params d.body d.scope pm cd doc) → s₁.heap.CodeRec cd d.name → mg d.name = some (.ref fa) →
      s₁.heap.get? a = some { cls := .type "list",data := .seq vs.toArray } → IntsAre vs ns → ns.length ≤ n → s₁.gens = #[] →
      codeAny (model l.prog w) callerA (.call (.ref fa) ⟨[.ref a],[]⟩) (fun r s' => r = .ok (.ret (.bool true)) ∧ OldK s₁.heap s'.heap ∧ s'.os = s₁.os ∧ AllBare s'.gens) s₁) :
    WalkO q loose XP YP l.row.toRowW d [] (fun f vs => PySem.call f vs) := by
  intro w s₀ s₁ mg mb G Y fa o pm cd doc dV kV ho hd hcd hD hmg hg args vals as hpre hlay hrd hwl hlo
  obtain rfl : dV = .none := Dflts.none hD hdf
  obtain rfl : kV = .none := Dflts.noKw hD
  obtain ⟨a,vs,ns,rfl,rfl,hobj,hints,hlen⟩ := script_of hn hpre hwl
  refine enter_call (codeAny_mono (call w s₀ s₁ mg mb fa o pm cd doc a vs ns G Y ho (fd_plain hd) hcd hmg hobj hints hlen hg) fun r s' hq => ?_)
  obtain ⟨rfl,h2,h3,h4⟩ := hq
  exact ⟨.inl ⟨.bool true,.bool true,[],rfl,fun _ => rfl,.bool true,post_true l _,fun _ => ⟨List.Pairwise.nil,fun _ hm => (nomatch hm)⟩⟩,h2,h3,h4⟩
section
variable {prog : Program} {w : World} {A : Around} {E : Value → Shared → Prop} {s : Shared} {K : Frag}
end
end Att
namespace L2
open PySem PySem.Spec PyProof.Rows
theorem vals_ints : ∀ {vs : List Value} {ns : List Int},IntsAre vs ns → Vals (ns.map V.int) vs
  | _,_,.nil => .nil
  | _,_,.cons n t h => .cons ⟨t,rfl⟩ (vals_ints h)
def Only (H : Hp) : Prop := ∀ b,H b = none ∨ ∃ o xs,H b = some (.frz o (.lst xs))
theorem law_call {P : Program} {w : World} {K : PySem.W.Frag} {mg mb : Str → Option Value} {CX : CXT} {k : Nat} {fa a : Addr} {fd : FuncData} {x : Str} {sp : Sp} {s₁ : Shared} {vs : List Value} {ns : List Int}
    (KX : K.In s₁.heap) (hns : s₁.heap.Ns mainGlobals mg) (hb : s₁.heap.Ns builtinsNs mb) (hbb : ∀ x : Str,x ≠ "__name__" → mb x = bootBuiltins x) (hlim : s₁.heap.NoLimit) (hg : s₁.gens = #[])
    (ha : s₁.heap.get? a = some { cls := .type "list",data := .seq vs.toArray }) (hi : IntsAre vs ns) (hl : ns.length ≤ sizeLine) (hr : Room k callerA)
    (F : ∀ base : Heap,K.In base → base.Ns mainGlobals mg → FnOk P w K mg base CX k fa fd [x] sp) (hbind : ∀ (s : Shared) (u : Value),BindsTo s fd ⟨[u],[]⟩ [(x,u)])
    (hsp : ∀ H : Hp,Only H → SqL K H a (ns.map V.int) → sp [.ref a] H (fun v _ => v = .bl true) fun _ _ _ => False)
    (hCX : ∀ H e s',CX [] H s₁ (fun _ _ _ => False) e s' → False) :
    codeAny (model P w) callerA (.call (.ref fa) ⟨[.ref a],[]⟩) (fun r s' => r = .ok (.ret (.bool true)) ∧ OldK s₁.heap s'.heap ∧ s'.os = s₁.os ∧ AllBare s'.gens) s₁ := by
  have rv := vals_ints hi
  have lenV := hi.length
  have core : ∀ H : Hp,Only H → SqL K H a (ns.map V.int) → HOk P w H s₁.heap → (∀ b,H b ≠ none → b = a) → (H a ≠ none → K.lookup a = none) →
      codeAny (model P w) callerA (.call (.ref fa) ⟨[.ref a],[]⟩) (fun r s' => r = .ok (.ret (.bool true)) ∧ OldK s₁.heap s'.heap ∧ s'.os = s₁.os ∧ AllBare s'.gens) s₁ := by
    intro H hO hS hok hA hK
    have base_of : ∀ {b : Addr} {o : Obj},s₁.heap.get? b = some o → H b = none → (hidT s₁.heap H).get? b = some o := fun e n => hidT_get e n
    have noA : ∀ {b : Addr} {o : Obj} {es : Array DictEntry} {ep : Nat},s₁.heap.get? b = some o → o.data = .dict es ep → H b = none := fun {b o es ep} e d => by
      cases q : H b with
      | none => rfl
      | some u =>
        have e' : b = a := hA b (by rw [q]; simp)
        subst e'
        rw [ha] at e; cases e
        have d' : Data.seq vs.toArray _ = Data.dict es ep := d
        cases d'
    have nsK : ∀ {b : Addr} {m : Str → Option Value},s₁.heap.Ns b m → (hidT s₁.heap H).Ns b m := fun {b m} ⟨o,es,ep,e,d,r⟩ => ⟨o,es,ep,base_of e (noA e d),d,r⟩
    have hKb : K.In (hidT s₁.heap H) := fun b o e => base_of (KX b o e) (by
      cases q : H b with
      | none => rfl
      | some u =>
        have e' : b = a := hA b (by rw [q]; simp)
        subst e'
        rw [hK (by rw [q]; simp)] at e; cases e)
    have hM : Mod K mg (hidT s₁.heap H) := ⟨hKb,nsK hns,⟨mb,nsK hb,hbb⟩,let ⟨mc,h1,h2⟩ := hlim; ⟨mc,nsK h1,h2⟩⟩
    have e0 : Env0 P w K mg (hidT s₁.heap H) callerA [] s₁ H := ⟨rfl,hM,fun b o e => of_hidT e,Nat.le_of_eq (hidT_size _ _),trivial,fun b hb => absurd (show b ∈ ([] : List Addr) from hb) (by simp),hok,.of_eq hg⟩
    refine codeAny_mono ((F _ hKb (nsK hns)).run callerA [] s₁ H ⟨[.ref a],[]⟩ [.ref a] [.ref a] _ _ hr e0 (hbind s₁ (.ref a)) (.cons rfl .nil) (hsp H hO hS)) fun r s' h => ?_
    cases r with
    | error e => exact (hCX H e s' h).elim
    | ok fl =>
      cases fl with
      | next => exact False.elim h
      | brk => exact False.elim h
      | cont => exact False.elim h
      | ret u =>
        obtain ⟨v,H',os,bare,un,hok',r',q⟩ := h
        have q' : v = .bl true := q
        subst q'
        obtain rfl : u = Value.bool true := r'
        refine ⟨rfl,OldK.of_keep fun b o e => ?_,os,bare⟩
        cases q : H b with
        | none => exact un.keep b o e q (by intro z; exact absurd (show b ∈ ([] : List Addr) from z) (by simp)) (by simp)
        | some u =>
          rcases hO b with z | ⟨ob,xs,z⟩
          · rw [q] at z; cases z
          · have z2 := un.frzs b ob _ z
            obtain ⟨e1,_⟩ := hok b _ z
            obtain ⟨e2,_⟩ := hok' b _ z2
            rw [e] at e1; cases e1
            exact e2
  cases hk : K.lookup a with
  | some o =>
    have e := KX a o hk
    rw [ha] at e
    cases e
    refine core (fun _ => none) (fun _ => .inl rfl) (.inr ⟨_,vs.toArray,_,hk,rfl,rfl,rfl,by rw [List.size_toArray,lenV]; exact hl,by simpa using rv⟩) (fun b u z => by have z' : (none : Option HO) = some u := z; cases z') (fun b z => absurd rfl z) fun z => absurd rfl z
  | none =>
    refine core (fun b => if b = a then some (.frz { cls := .type "list",data := .seq vs.toArray } (.lst (ns.map V.int))) else none) (fun b => ?_) (.inl (.inr ⟨{ cls := .type "list",data := .seq vs.toArray },if_pos rfl⟩)) (fun b u z => ?_) (fun b z => ?_) fun _ => hk
    · by_cases hb : b = a
      · exact .inr ⟨_,_,if_pos hb⟩
      · exact .inl (if_neg hb)
    · by_cases hb : b = a
      · have z' := (if_pos hb).symm.trans z
        cases z'
        subst hb
        exact ⟨ha,by rw [List.length_map]; exact hl,vs,_,rv,ha⟩
      · have z' := (if_neg hb).symm.trans z
        cases z'
    · by_cases hb : b = a
      · exact hb
      · exact absurd (if_neg hb) z
end L2
namespace L2
open PySem PySem.Spec PyProof.Rows
theorem walk_of {l : PySem.W.OpenLaw} {n k : Nat} {q : Program} {loose : List Str} {XP : (Str → Option Value) → Heap → Prop} {YP : World → Heap → Prop} {d : DefRec} {K : Params → PySem.W.Frag} {CX : World → CXT} {sp : World → Sp} {x : Str}
    (hn : l.most = some n) (hn2 : n ≤ sizeLine) (hdf : d.params.defaults = []) (hr : Room k callerA)
    (hY : ∀ (w : World) (h : Heap),YP w h → (K w.params).In h)
    (F : ∀ (w : World) (mg : Str → Option Value) (fa : Addr) (h : Heap),(K w.params).In h → h.Ns mainGlobals mg → mg d.name = some (.ref fa) →
      ∃ fd : FuncData,(∀ (s : Shared) (u : Value),BindsTo s fd ⟨[u],[]⟩ [(x,u)]) ∧
        ∀ base : Heap,(K w.params).In base → base.Ns mainGlobals mg → FnOk l.prog w (K w.params) mg base (CX w) k fa fd [x] (sp w))
    (hsp : ∀ (w : World) (H : Hp) (a : Addr) (ns : List Int),ns.length ≤ n → Only H → SqL (K w.params) H a (ns.map V.int) → sp w [.ref a] H (fun v _ => v = .bl true) fun _ _ _ => False)
    (hCX : ∀ (w : World) (H : Hp) (s : Shared) (e : Value) (s' : Shared),CX w [] H s (fun _ _ _ => False) e s' → False) :
    PySem.W.WalkO q loose XP YP l.row.toRowW d [] (fun f vs => PySem.call f vs) := by
  refine Att.attach_call hn hdf fun w s₀ s₁ mg mb fa o pm cd doc a vs ns G Y ho hd hcd hmg hobj hints hlen hg => ?_
  have KX := hY w _ Y
  obtain ⟨fd,hb,hF⟩ := F w mg fa _ KX G.T.g hmg
  exact law_call KX G.T.g G.T.b G.T.builtins G.T.nolimit hg hobj hints (Nat.le_trans hlen hn2) hr hF hb (fun H hO hS => hsp w H a ns hlen hO hS) fun H e s' => hCX w H s₁ e s'
end L2
namespace L2
open PySem PySem.Spec PyProof.Rows
def defArgs (s : Stmt) : Arguments := match s with
  | .FunctionDef _ a _ _ _ _ _ _ _ _ => a
  | _ => { posonlyargs := [],args := [],vararg := none,kwonlyargs := [],kw_defaults := [],kwarg := none,defaults := [] }
def defBody (s : Stmt) : List Stmt := match s with
  | .FunctionDef _ _ b _ _ _ _ _ _ _ => b
  | _ => []
def defScope (s : Stmt) : Scope := match s with
  | .FunctionDef _ _ _ _ _ _ sc _ _ _ => sc
  | _ => { kind := .function,names := [],isGenerator := false,isCoroutine := false }
abbrev CX0 : CXT := fun _ _ _ _ _ _ => False
abbrev E0 : XK := fun _ _ _ => False
theorem pass0 {X : Cx} : Passes CX0 X E0 := fun _ _ _ _ _ _ _ h => h.elim
section
variable {P : Program} {w : World} {K : PySem.W.Frag} {mg : Str → Option Value} {base : Heap}
end
theorem small1000 {n : Nat} (h : n ≤ 1000) : n < sizeLine := Nat.lt_of_le_of_lt h (by decide)
section
variable {X : Cx}
theorem pv (i : Nat) {x : Str} {pos : Pos} (hN : X.N[i]? = some x := by rfl) (hv : Vis X.env.scope x := by first | exact Or.inl rfl | exact Or.inr (Or.inl rfl) | exact Or.inr (Or.inr rfl)) (hd : (x == ("__debug__" : Str)) = false := by decide)
    (hcd : (x == ("__classdict__" : Str)) = false := by decide) : PE X (.Name x pos) (tVar i) := pe_var hN hv hd hcd
end
theorem iteF {A B : Prop} (h : B) : if false = true then A else B := by
  rw [if_neg Bool.false_ne_true]
  exact h
theorem iteT {A B : Prop} (h : A) : if true = true then A else B := by
  rw [if_pos rfl]
  exact h
def Same (H H' : Hp) : Prop := ∀ b o,H b = some o → H' b = some o
theorem Same.refl (H : Hp) : Same H H := fun _ _ h => h
theorem Same.trans {H H1 H2 : Hp} (a : Same H H1) (b : Same H1 H2) : Same H H2 := fun c o h => b c o (a c o h)
theorem Same.free {H H' : Hp} (e : Same H H') {l : Addr} (h : H' l = Option.none) : H l = Option.none := by
  cases q : H l with
  | none => rfl
  | some o =>
    rw [e l o q] at h
    cases h
theorem Same.seq {K : PySem.W.Frag} {H H' : Hp} {a : Addr} {xs : List V} (e : Same H H') (h : SqL K H a xs) : SqL K H' a xs := by
  rcases h with (h | ⟨o,h⟩) | h
  · exact .inl (.inl (e _ _ h))
  · exact .inl (.inr ⟨o,e _ _ h⟩)
  · exact .inr h
end L2
end
section
set_option Elab.async false
set_option linter.all false
set_option maxRecDepth 100000
set_option maxHeartbeats 4000000
namespace Mth
theorem gcd_step {a b : Int} (ha : 0 ≤ a) (hb : 0 < b) : Int.gcd b (a % b) = Int.gcd a b := by
  obtain ⟨m,rfl⟩ := Int.eq_ofNat_of_zero_le ha
  obtain ⟨n,rfl⟩ := Int.eq_ofNat_of_zero_le (Int.le_of_lt hb)
  rw [← Int.natCast_emod]
  show Nat.gcd (n : Int).natAbs ((m % n : Nat) : Int).natAbs = Nat.gcd (m : Int).natAbs (n : Int).natAbs
  simp only [Int.natAbs_natCast]
  rw [Nat.gcd_comm m n,Nat.gcd_comm n (m % n)]
  exact (Nat.gcd_rec n m).symm
theorem gcd_abs (a b : Int) : Int.gcd (if a < 0 then -a else a) b = Int.gcd a b := by
  split
  · exact Int.neg_gcd
  · rfl
theorem gcd_abs' (a b : Int) : Int.gcd a (if b < 0 then -b else b) = Int.gcd a b := by
  rw [Int.gcd_comm,gcd_abs,Int.gcd_comm]
theorem gcd_zero {a : Int} (ha : 0 ≤ a) : (Int.gcd a 0 : Int) = a := by
  rw [Int.gcd_zero]; omega
structure Low (t b : Int) : Prop where
  pos : 1 ≤ b
  one : Int.gcd t b = 1
theorem gcd_pos {a b : Int} (h : b ≠ 0) : 0 < (Int.gcd a b : Int) := by
  have := Int.gcd_pos_of_ne_zero_right a h
  omega
theorem div_eq (a b : Int) : a = a / (Int.gcd a b : Int) * (Int.gcd a b : Int) := (Int.ediv_mul_cancel (Int.gcd_dvd_left a b)).symm
theorem div_eq' (a b : Int) : b = b / (Int.gcd a b : Int) * (Int.gcd a b : Int) := (Int.ediv_mul_cancel (Int.gcd_dvd_right a b)).symm
theorem div_low {a b : Int} (hb : 0 < b) : Low (a / (Int.gcd a b : Int)) (b / (Int.gcd a b : Int)) := by
  have hg := gcd_pos (a := a) (b := b) (by omega)
  refine ⟨?_,?_⟩
  · have h1 := div_eq' a b
    have h2 : 0 < b / (Int.gcd a b : Int) := Int.ediv_pos_of_pos_of_dvd hb (by omega) (Int.gcd_dvd_right a b)
    omega
  · rw [Int.gcd_ediv (Int.gcd_dvd_left a b) (Int.gcd_dvd_right a b)]
    simp only [Int.natAbs_natCast]
    exact Nat.div_self (by omega)
theorem low_dvd {t b t' b' : Int} (h : Low t b) (e : t * b' = t' * b) : b ∣ b' := by
  have h1 : b.natAbs ∣ t.natAbs * b'.natAbs := by
    rw [← Int.natAbs_mul,e,Int.natAbs_mul]
    exact Nat.dvd_mul_left _ _
  have h2 : Nat.Coprime b.natAbs t.natAbs := by
    have := h.one
    unfold Nat.Coprime
    rw [Nat.gcd_comm]
    exact this
  exact Int.natAbs_dvd_natAbs.mp (h2.dvd_of_dvd_mul_left h1)
theorem low_unique {t b t' b' : Int} (h : Low t b) (h' : Low t' b') (e : t * b' = t' * b) : t = t' ∧ b = b' := by
  have d1 := low_dvd h e
  have d2 := low_dvd h' e.symm
  have p1 := h.pos
  have p2 := h'.pos
  have eb : b = b' := Int.le_antisymm (Int.le_of_dvd (by omega) d1) (Int.le_of_dvd (by omega) d2)
  subst eb
  exact ⟨Int.eq_of_mul_eq_mul_right (by omega) e,rfl⟩
structure Frac (top bottom t b : Int) : Prop where
  low : Low t b
  eq : top * b = t * bottom
theorem frac_pos {a b : Int} (hb : 0 < b) : Frac a b (a / (Int.gcd a b : Int)) (b / (Int.gcd a b : Int)) := by
  refine ⟨div_low hb,?_⟩
  have h1 := div_eq a b
  have h2 := div_eq' a b
  generalize a / (Int.gcd a b : Int) = x at *
  generalize b / (Int.gcd a b : Int) = y at *
  generalize (Int.gcd a b : Int) = g at *
  subst h1 h2
  grind
theorem frac_fdiv {a b : Int} (hb : b ≠ 0) (d : Int) (hd : d = if b < 0 then -(Int.gcd a b : Int) else (Int.gcd a b : Int)) : Frac a b (a.fdiv d) (b.fdiv d) := by
  have hg := gcd_pos (a := a) (b := b) hb
  by_cases h : b < 0
  · rw [if_pos h] at hd
    have f := frac_pos (a := -a) (b := -b) (by omega)
    rw [Int.gcd_neg,Int.neg_gcd] at f
    subst hd
    have e1 : a.fdiv (-(Int.gcd a b : Int)) = -a / (Int.gcd a b : Int) := by
      rw [← Int.neg_fdiv_neg,Int.neg_neg]; exact Int.fdiv_eq_ediv_of_nonneg _ (by omega)
    have e2 : b.fdiv (-(Int.gcd a b : Int)) = -b / (Int.gcd a b : Int) := by
      rw [← Int.neg_fdiv_neg,Int.neg_neg]; exact Int.fdiv_eq_ediv_of_nonneg _ (by omega)
    rw [e1,e2]
    exact ⟨f.low,by have := f.eq; grind⟩
  · rw [if_neg h] at hd
    subst hd
    rw [Int.fdiv_eq_ediv_of_nonneg _ (by omega),Int.fdiv_eq_ediv_of_nonneg _ (by omega)]
    exact frac_pos (by omega)
theorem frac_unique {a b t u t' u' : Int} (hb : b ≠ 0) (h : Frac a b t u) (h' : Frac a b t' u') : t = t' ∧ u = u' := by
  refine low_unique h.low h'.low ?_
  have e1 := h.eq
  have e2 := h'.eq
  have : b * (t * u') = b * (t' * u) := by grind
  exact Int.eq_of_mul_eq_mul_left hb this
theorem frac_self {t u : Int} (h : Low t u) : Frac t u t u := ⟨h,rfl⟩
end Mth
namespace L2
open PySem PySem.Spec PyProof.Rows
abbrev bits (i : Int) : Nat := Builtin.Int.intBits i
theorem bits_of {i : Int} {n : Nat} (h : i.natAbs < 2 ^ n) : bits i ≤ n := intBits_le h
theorem bits_lt {i : Int} {n : Nat} (h : bits i ≤ n) : i.natAbs < 2 ^ n := by
  unfold bits Builtin.Int.intBits at h
  by_cases h0 : i = 0
  · subst h0
    exact Nat.pos_of_ne_zero (by simp)
  · rw [if_neg (by simpa using h0)] at h
    have h1 : i.natAbs ≠ 0 := by omega
    exact (Nat.log2_lt h1).mp (by omega)
theorem bits_mono {i j : Int} {n : Nat} (h : i.natAbs ≤ j.natAbs) (hj : bits j ≤ n) : bits i ≤ n := bits_of (Nat.lt_of_le_of_lt h (bits_lt hj))
theorem bits_mul {i j : Int} {m n : Nat} (hi : bits i ≤ m) (hj : bits j ≤ n) : bits (i * j) ≤ m + n := by
  refine bits_of ?_
  rw [Int.natAbs_mul,Nat.pow_add]
  exact Nat.mul_lt_mul'' (bits_lt hi) (bits_lt hj)
theorem bits_add {i j : Int} {n : Nat} (hi : bits i ≤ n) (hj : bits j ≤ n) : bits (i + j) ≤ n + 1 := by
  refine bits_of ?_
  have h1 := bits_lt hi
  have h2 := bits_lt hj
  have h3 : (2 : Nat) ^ (n + 1) = 2 * 2 ^ n := by rw [Nat.pow_succ,Nat.mul_comm]
  omega
theorem bits_neg {i : Int} {n : Nat} (hi : bits i ≤ n) : bits (-i) ≤ n := bits_mono (by omega) hi
theorem bits_ediv {i j : Int} {n : Nat} (hj : 0 < j) (hi : bits i ≤ n) : bits (i / j) ≤ n := by
  refine bits_mono ?_ hi
  exact Int.natAbs_ediv_le_natAbs i j
theorem bits_fdiv {i j : Int} {n : Nat} (hi : bits i ≤ n) : bits (i.fdiv j) ≤ n := PySem.intBits_fdiv_le hi
theorem bits_le {i : Int} {m n : Nat} (h : bits i ≤ m) (hm : m ≤ n) : bits i ≤ n := Nat.le_trans h hm
section
variable {X : Cx} {pos : Pos}
def CM (i j : Int) : Prop := IntMulOk i j
theorem CM.b {i j : Int} {m n : Nat} (hi : bits i ≤ m) (hj : bits j ≤ n) (hm : m ≤ 2 ^ 20) (hn : n ≤ 2 ^ 20) : CM i j := IntMulOk.of_bits (Nat.le_trans hi hm) (Nat.le_trans hj hn)
theorem CM.l {i j : Int} (h : -(2 ^ 64) < i ∧ i < 2 ^ 64) : CM i j := CMul.ok (.inl h)
theorem CM.r {i j : Int} (h : -(2 ^ 64) < j ∧ j < 2 ^ 64) : CM i j := CMul.ok (.inr h)
theorem op_mulX : OpR X (binaryOp .Mult) (rI CM fun i j => .int (i * j)) := opI fun _ _ _ _ _ _ _ hc q => mul_int q hc
def CD (_ j : Int) : Prop := 0 < j ∧ bits j ≤ 8000
theorem log2_of_bits {j : Int} {n : Nat} (hj : j ≠ 0) (h : bits j ≤ n) (hn : n ≤ 9000) : j.natAbs.log2 < 9000 := by
  have h1 : j.natAbs ≠ 0 := by omega
  have h2 := (Nat.log2_lt h1).mpr (bits_lt h)
  omega
theorem op_fdivP : OpR X (binaryOp .FloorDiv) (rI CD fun i j => .int (i / j)) := opI fun i j _ _ _ _ _ hc q => by
  have h1 : (0 : Int) < j := hc.1
  exact floordiv_int (by omega) (by rw [Int.fdiv_eq_ediv_of_nonneg i (by omega)]; exact q) (.inl (PyProof.noPylong_of_log2 (log2_of_bits (by omega) hc.2 (by decide))))
def CDZ (_ j : Int) : Prop := j ≠ 0 ∧ bits j ≤ 8000
theorem op_fdivZ : OpR X (binaryOp .FloorDiv) (rI CDZ fun i j => .int (i.fdiv j)) := opI fun i j _ _ _ _ _ hc q =>
  floordiv_int hc.1 q (.inl (PyProof.noPylong_of_log2 (log2_of_bits hc.1 hc.2 (by decide))))
end
theorem bt_int : bootBuiltins "int" = some (.type "int") := by decide +kernel
theorem bt_bool : bootBuiltins "bool" = some (.type "bool") := by decide +kernel
theorem bt_str : bootBuiltins "str" = some (.type "str") := by decide +kernel
theorem bt_tuple : bootBuiltins "tuple" = some (.type "tuple") := by decide +kernel
theorem bt_list : bootBuiltins "list" = some (.type "list") := by decide +kernel
theorem bt_isinstance : bootBuiltins "isinstance" = some (.builtin "isinstance") := by decide +kernel
theorem bt_abs : bootBuiltins "abs" = some (.builtin "abs") := by decide +kernel
theorem bt_len : bootBuiltins "len" = some (.builtin "len") := by decide +kernel
theorem bt_min : bootBuiltins "min" = some (.builtin "min") := by decide +kernel
theorem bt_max : bootBuiltins "max" = some (.builtin "max") := by decide +kernel
theorem pe_ty {X : Cx} {x : Str} {T : String} {pos : Pos} (hm : X.mg x = none) (hv : bootBuiltins x = some (.type T)) (hg : Gl X x := by rfl) (hn : x ≠ "__name__" := by decide) (hd : (x == ("__debug__" : Str)) = false := by decide) :
    PE X (.Name x pos) (tC (.ty T)) := pe_bltn hg hm hv rfl hn hd
inductive Kn (H : Hp) : V → String → Prop where
  | non : Kn H .non "NoneType"
  | bl (b : Bool) : Kn H (.bl b) "bool"
  | int (i : Int) : Kn H (.int i) "int"
  | str (x : Str) : Kn H (.str x) "str"
  | lst {a : Addr} {xs : List V} (e : H a = some (.lst xs)) : Kn H (.ref a) "list"
  | tup {a : Addr} {xs : List V} (e : H a = some (.tup xs)) : Kn H (.ref a) "tuple"
  | dict {a : Addr} {kvs : List (Key × V)} (e : H a = some (.dK kvs)) : Kn H (.ref a) "dict"
theorem Kn.ty {K : PySem.W.Frag} {H : Hp} {x : V} {t : String} (k : Kn H x t) : TyOf K H x (.type t) := by
  cases k with
  | non => exact .non
  | bl b => exact .bl b
  | int i => exact .int i
  | str x => exact .str x
  | lst e => exact .lst e
  | tup e => exact .tup e
  | dict e => exact .dK e
theorem Kn.mono {H H' : Hp} {x : V} {t : String} (k : Kn H x t) (s : Same H H') : Kn H' x t := by
  cases k with
  | non => exact .non
  | bl b => exact .bl b
  | int i => exact .int i
  | str x => exact .str x
  | lst e => exact .lst (s _ _ e)
  | tup e => exact .tup (s _ _ e)
  | dict e => exact .dict (s _ _ e)
def isSub (t T : String) : Bool := t == T || (t == "bool" && T == "int")
def Nice (T : String) : Prop := T = "int" ∨ T = "bool" ∨ T = "tuple" ∨ T = "list" ∨ T = "str"
theorem kit_of (K : PySem.W.Frag) {H : Hp} {x : V} {t T : String} (k : Kn H x t) (n : Nice T) : PySem.W.kitOne K (.type t) (.type T) = some (isSub t T) := by
  rcases n with rfl | rfl | rfl | rfl | rfl <;> cases k <;> kernel_rfl
theorem call_isinst {X : Cx} : CallR X (.builtin "isinstance") (fun xs H Q => ∃ x t T,xs = [x,.ty T] ∧ Kn H x t ∧ Nice T ∧ Q (.bl (isSub t T)) H) := by
  intro pins s σ H xs us Q I rs h
  obtain ⟨x,t,T,rfl,k,n,q⟩ := h
  obtain ⟨u,v,rfl,ru,rv⟩ := vals2 rs
  cases (show v = Value.type T from rv)
  exact isinst_ok I ru k.ty (kit_of X.K k n) fun tk => ⟨.bl _,H,I.tok _,rfl,q⟩
structure Fn (P : Program) (w : World) (K : PySem.W.Frag) (mg : Str → Option Value) (base : Heap) (x : Str) (ps : List Str) (k : Nat) (sp : Sp) : Prop where
  ex : ∃ (f : Addr) (fd : FuncData) (o : Obj),mg x = some (.ref f) ∧ PySem.W.keepIn K (.ref f) = true ∧ (∀ us : List Value,us.length = ps.length → bindArgs fd ⟨us,[]⟩ = pure (ps.zip us)) ∧ (K.lookup f = some o ∧ o.data = .func fd) ∧ FnOk P w K mg base CX0 k f fd ps sp
theorem pe_fn {X : Cx} {x : Str} {ps : List Str} {k : Nat} {sp : Sp} {p pos : Pos} {e : Expr} {es : List Expr} {t : TA} (F : Fn X.prog X.w X.K X.mg X.base x ps k sp) (hr : Room k X.A) (hg : Gl X x) (ha : PA X (e :: es) t)
    (hdb : (x == ("__debug__" : Str)) = false := by decide) (he : starEach (e :: es) X.env = (false,eval e X.env) :: starEach es X.env := by rfl) (hpl : (backTo pos (starEach es X.env)).any (·.1) = false := by rfl) :
    PE X (.Call (.Name x p) (e :: es) [] pos) (tCall sp [] E0 t) := by
  obtain ⟨f,fd,o,hm,hk,hb,_,G⟩ := F.ex
  exact pe_call G hr hg hm hk (.all hb) .nil pass0 ha hdb he hpl
structure Df (K : PySem.W.Frag) (mg : Str → Option Value) (x : Str) (st : Stmt) : Prop where
  ex : ∃ (f : Addr) (oc : Value) (od : Option Addr) (kV doc pm : Value) (an : Option Addr) (cdv ct : Value) (osl : Array (Option Value)),
    mg x = some (.ref f) ∧ K.lookup f = some ⟨oc,od,.func (PySem.W.fnOf x x (defArgs st) (defBody st) (defScope st) .none kV doc pm an cdv ct),osl⟩ ∧ PySem.W.codeIn K cdv x = true ∧ PySem.W.keepIn K (.ref f) = true
theorem df_mk {K : PySem.W.Frag} {mg : Str → Option Value} {h : Heap} {x : Str} {st : Stmt} {f : Addr} {oc : Value} {od an : Option Addr} {osl : Array (Option Value)} {kV doc pm cdv ct : Value} (X : K.In h) (G : h.Ns mainGlobals mg)
    (a : PySem.W.nsIn K mainGlobals x = some (some (.ref f))) (l : K.lookup f = some ⟨oc,od,.func (PySem.W.fnOf x x (defArgs st) (defBody st) (defScope st) .none kV doc pm an cdv ct),osl⟩) (c : PySem.W.codeIn K cdv x = true) (k : PySem.W.keepIn K (.ref f) = true) :
    Df K mg x st := ⟨⟨f,oc,od,kV,doc,pm,an,cdv,ct,osl,PySem.W.mg_of X G a,l,c,k⟩⟩
theorem Df.fn {P : Program} {w : World} {K : PySem.W.Frag} {mg : Str → Option Value} {base : Heap} {x : Str} {st : Stmt} {N ps : List Str} {k : Nat} {sp : Sp} (D : Df K mg x st) (S : FnScope N ps (defScope st))
    (hbind : ∀ (kV doc pm : Value) (an : Option Addr) (cdv ct : Value) (us : List Value),us.length = ps.length → bindArgs (PySem.W.fnOf x x (defArgs st) (defBody st) (defScope st) .none kV doc pm an cdv ct) ⟨us,[]⟩ = pure (ps.zip us))
    (len : ∀ vs H Q E,sp vs H Q E → vs.length = ps.length)
    (hbody : ∀ (f : Addr) (cdv : Value) (A : Around) (outer : List Env) (s : Shared) (H : Hp) (vs : List V) (Q : VK) (E : XK),Room k (A.deeper (envOfC x (defScope st) s.heap.objs.size f cdv)) → sp vs H Q E →
      ∃ t,PSs (cxOf CX0 P w K mg base N x (defScope st) f cdv A outer s H E).nox (defBody st) t ∧ t { nx := fun _ H' => Q .non H',rt := Q } (start N vs) H) : Fn P w K mg base x ps (k + 1) sp := by
  obtain ⟨f,oc,od,kV,doc,pm,an,cdv,ct,osl,hm,lk,hcd,hk⟩ := D.ex
  refine ⟨⟨f,_,_,hm,hk,hbind kV doc pm an cdv ct,⟨lk,rfl⟩,fn_of lk hcd S len fun A outer s H vs Q E hr hsp => ?_⟩⟩
  obtain ⟨t,h,q⟩ := hbody f cdv A outer s H vs Q E hr hsp
  exact ⟨t,h.nox,q⟩
theorem law_fd {P : Program} {w : World} {K : PySem.W.Frag} {mg : Str → Option Value} {fa : Addr} {k : Nat} {sp : Sp} (h : Heap) (hfa : mg "law" = some (.ref fa)) (F : ∀ base : Heap,Fn P w K mg base "law" ["script"] k sp) :
    ∃ fd : FuncData,(∀ (s : Shared) (v : Value),BindsTo s fd ⟨[v],[]⟩ [("script",v)]) ∧ ∀ base : Heap,K.In base → base.Ns mainGlobals mg → FnOk P w K mg base CX0 k fa fd ["script"] sp := by
  obtain ⟨f,fd,o,hm,_,hb,⟨hl,hd⟩,_⟩ := (F h).ex
  rw [hfa] at hm
  cases hm
  refine ⟨fd,fun s v => .of_eq (hb [v] rfl),fun base _ _ => ?_⟩
  obtain ⟨f',fd',o',hm',_,_,⟨hl',hd'⟩,G⟩ := (F base).ex
  rw [hfa] at hm'
  cases hm'
  rw [hl] at hl'
  cases hl'
  rw [hd] at hd'
  cases hd'
  exact G
def spLaw (K : PySem.W.Frag) : Sp := fun vs H Q _ => ∃ (a : Addr) (ns : List Int),vs = [.ref a] ∧ SqL K H a (ns.map V.int) ∧ ns.length ≤ 63 ∧ ∀ H',Q (.bl true) H'
theorem law_walk {l : PySem.W.OpenLaw} {k : Nat} {q : Program} {loose : List Str} {XP : (Str → Option Value) → Heap → Prop} {YP : World → Heap → Prop} {d : DefRec} {K : Params → PySem.W.Frag} (hk : Room k callerA) (hn : l.most = some 63) (hdf : d.params.defaults = [])
    (hY : ∀ (w : World) (h : Heap),YP w h → (K w.params).In h)
    (F : ∀ (w : World) (mg : Str → Option Value) (fa : Addr) (h : Heap),(K w.params).In h → h.Ns mainGlobals mg → mg d.name = some (.ref fa) →
      ∃ fd : FuncData,(∀ (s : Shared) (u : Value),BindsTo s fd ⟨[u],[]⟩ [("script",u)]) ∧ ∀ base : Heap,(K w.params).In base → base.Ns mainGlobals mg → FnOk l.prog w (K w.params) mg base CX0 k fa fd ["script"] (spLaw (K w.params))) :
    PySem.W.WalkO q loose XP YP l.row.toRowW d [] (fun f vs => PySem.call f vs) :=
  L2.walk_of (n := 63) (k := k) (x := "script") (CX := fun _ => CX0) (sp := fun w => spLaw (K w.params)) hn (by decide) hdf hk hY F (fun _ _ a ns hl _ hS => ⟨a,ns,rfl,hS,hl,fun _ => rfl⟩) fun _ _ _ _ _ z => z
theorem Same.new {H : Hp} {p : Addr} {o : HO} (h : H p = none) : Same H (upd H p o) := fun b o' e => by
  rw [upd_ne (ne_of_none e h)]
  exact e
theorem ite3 {c : Bool} {A B : Prop} (h1 : c = true → A) (h2 : c = false → B) : if c = true then A else B := by
  cases c with
  | true => exact iteT (h1 rfl)
  | false => exact iteF (h2 rfl)
theorem iteFalse {b : Bool} {A B : Prop} (hb : b = false) (h : B) : if b = true then A else B := by
  subst hb
  exact iteF h
theorem iteTrue {b : Bool} {A B : Prop} (hb : b = true) (h : A) : if b = true then A else B := by
  subst hb
  exact iteT h
def isIntV : V → Bool
  | .int _ => true
  | _ => false
end L2
namespace Sp1
open PySem PySem.Spec L2 Mth
def spWhole : Sp := fun vs H Q _ => ∃ x t,vs = [x] ∧ Kn H x t ∧ Q (.bl (isIntV x)) H
def spGcd : Sp := fun vs H Q _ => ∃ a b : Int,vs = [.int a,.int b] ∧ Q (.int (Int.gcd a b : Int)) H
def spLess : Sp := fun vs H Q _ => ∃ (p q : Addr) (a b c d : Int),vs = [.ref p,.ref q] ∧ H p = some (.tup [.int a,.int b]) ∧ H q = some (.tup [.int c,.int d]) ∧ (bits a ≤ 2000 ∧ bits b ≤ 2000 ∧ bits c ≤ 2000 ∧ bits d ≤ 2000) ∧ Q (.bl (decide (a * d < c * b))) H
def spFloor : Sp := fun vs H Q _ => ∃ (p : Addr) (a b : Int),vs = [.ref p] ∧ H p = some (.tup [.int a,.int b]) ∧ (0 < b ∧ bits b ≤ 2000) ∧ Q (.int (a / b)) H
def lowB (a b : Int) : Bool := decide (1 ≤ b) && decide (Int.gcd a b = 1)
def lowL : List V → Bool
  | [.int a,.int b] => lowB a b
  | _ => false
def lowV (H : Hp) : V → Bool
  | .ref p => match H p with
    | some (.tup xs) => lowL xs
    | _ => false
  | _ => false
structure Thing (H : Hp) (x : V) : Prop where
  kn : ∃ t,Kn H x t
  parts : ∀ p xs,x = .ref p → H p = some (.tup xs) → ∀ y ∈ xs,∃ t,Kn H y t
def spLow : Sp := fun vs H Q _ => ∃ x,vs = [x] ∧ Thing H x ∧ Q (.bl (lowV H x)) H
theorem whole_sub {H : Hp} {x : V} {t : String} (k : Kn H x t) : (isSub t "int" = true → (!isSub t "bool") = isIntV x) ∧ (isSub t "int" = false → isIntV x = false) := by
  cases k with
  | non => exact ⟨fun h => absurd h (by decide),fun _ => rfl⟩
  | bl b => exact ⟨fun _ => (show (!isSub "bool" "bool") = false by decide),fun h => absurd h (by decide)⟩
  | int i => exact ⟨fun _ => (show (!isSub "int" "bool") = true by decide),fun h => absurd h (by decide)⟩
  | str x => exact ⟨fun h => absurd h (by decide),fun _ => rfl⟩
  | lst e => exact ⟨fun h => absurd h (by decide),fun _ => rfl⟩
  | tup e => exact ⟨fun h => absurd h (by decide),fun _ => rfl⟩
  | dict e => exact ⟨fun h => absurd h (by decide),fun _ => rfl⟩
theorem abs_nonneg (a : Int) : 0 ≤ (if a < 0 then -a else a) := by split <;> omega
theorem Kn.cases_int {H : Hp} {y : V} {t : String} (k : Kn H y t) : (∃ a,y = .int a ∧ t = "int") ∨ ((∀ a,y ≠ .int a) ∧ isIntV y = false) := by
  cases k with
  | int a => exact .inl ⟨a,rfl,rfl⟩
  | non => exact .inr ⟨fun a e => (nomatch e),rfl⟩
  | bl b => exact .inr ⟨fun a e => (nomatch e),rfl⟩
  | str x => exact .inr ⟨fun a e => (nomatch e),rfl⟩
  | lst e => exact .inr ⟨fun a e => (nomatch e),rfl⟩
  | tup e => exact .inr ⟨fun a e => (nomatch e),rfl⟩
  | dict e => exact .inr ⟨fun a e => (nomatch e),rfl⟩
theorem Kn.cases_tup {H : Hp} {y : V} {t : String} (k : Kn H y t) : (∃ p xs,y = .ref p ∧ H p = some (.tup xs) ∧ t = "tuple") ∨ (lowV H y = false ∧ isSub t "tuple" = false) := by
  cases k with
  | tup e => exact .inl ⟨_,_,rfl,e,rfl⟩
  | non => exact .inr ⟨rfl,by decide⟩
  | bl b => exact .inr ⟨rfl,by decide⟩
  | str x => exact .inr ⟨rfl,by decide⟩
  | int a => exact .inr ⟨rfl,by decide⟩
  | lst e => exact .inr ⟨by simp only [lowV,e],by decide⟩
  | dict e => exact .inr ⟨by simp only [lowV,e],by decide⟩
theorem lowV_tup {H : Hp} {p : Addr} {xs : List V} (e : H p = some (.tup xs)) : lowV H (.ref p) = lowL xs := by simp only [lowV,e]
theorem lowL_len {xs : List V} (h : xs.length ≠ 2) : lowL xs = false := by
  unfold lowL
  split
  · exact absurd rfl h
  · rfl
theorem lowL_fst {y z : V} (h : ∀ a,y ≠ .int a) : lowL [y,z] = false := by
  unfold lowL
  split
  · rename_i a b e
    cases e
    exact absurd rfl (h a)
  · rfl
theorem lowL_snd {y z : V} (h : ∀ a,z ≠ .int a) : lowL [y,z] = false := by
  unfold lowL
  split
  · rename_i a b e
    cases e
    exact absurd rfl (h b)
  · rfl
theorem sz {n : Nat} (h : n ≤ 1000) : n ≤ sizeLine := Nat.le_of_lt (small1000 h)
theorem grow {H : Hp} {p : Addr} {o : HO} (h : H p = none) : ∃ H1,upd H p o = H1 ∧ Same H H1 ∧ H1 p = some o := ⟨_,rfl,Same.new h,upd_same⟩
theorem atI_mem {α : Type} {xs : List α} {k : Int} (h0 : 0 ≤ k) (h1 : k < (xs.length : Int)) : ∃ v,atI xs k = some v ∧ v ∈ xs := by
  have hk : k.toNat < xs.length := by omega
  have ek : k = ((k.toNat : Nat) : Int) := by omega
  have q := atI_nat (xs := xs) (j := k.toNat) (List.getElem?_eq_getElem hk)
  rw [← ek] at q
  exact ⟨xs[k.toNat],q,List.getElem_mem hk⟩
def spRatio (C : Addr) : Sp := fun vs H Q E => ∃ a b : Int,vs = [.int a,.int b] ∧ (bits a ≤ 2000 ∧ bits b ≤ 2000) ∧ (b = 0 → E (.ref C) none H) ∧
  (b ≠ 0 → ∀ (p : Addr) (t u : Int),Frac a b t u → bits t ≤ 2000 → bits u ≤ 2000 → H p = none → Q (.ref p) (upd H p (.tup [.int t,.int u])))
theorem gcd_bits2 {a b : Int} {n : Nat} (hb : b ≠ 0) (h : bits b ≤ n) : bits (Int.gcd a b : Int) ≤ n := by
  refine bits_mono ?_ h
  have h1 : (Int.gcd a b) ∣ b.natAbs := Int.gcd_dvd_natAbs_right a b
  have h2 := Nat.le_of_dvd (by omega) h1
  omega
end Sp1
namespace L2
open PySem PySem.Spec PyProof.Rows
theorem all_same (ns ms : List Int) : ((List.range (min ns.length ms.length)).all (fun j => decide (ns[j]? = ms[j]?)) && ns.length == ms.length) = decide (ns = ms) := by
  rw [Bool.eq_iff_iff]
  simp only [Bool.and_eq_true,List.all_eq_true,List.mem_range,decide_eq_true_eq,beq_iff_eq]
  constructor
  · rintro ⟨h1,h2⟩
    refine List.ext_getElem? fun j => ?_
    by_cases hj : j < ns.length
    · exact h1 j (by omega)
    · rw [List.getElem?_eq_none (by omega),List.getElem?_eq_none (by omega)]
  · rintro rfl
    exact ⟨fun _ _ => rfl,rfl⟩
theorem val_at {ns : List Int} {us : List Value} {j : Nat} (r : Vals (ns.map V.int) us) (h : j < us.length) : ∃ a,ns[j]? = some a ∧ RelV (.int a) us[j] := by
  have hl := r.length
  rw [List.length_map] at hl
  have hj : j < ns.length := by omega
  obtain ⟨u,e,q⟩ := r.get (i := j) (x := .int ns[j]) (by rw [List.getElem?_map,List.getElem?_eq_getElem hj]; rfl)
  rw [List.getElem?_eq_getElem h] at e
  cases e
  exact ⟨ns[j],List.getElem?_eq_getElem hj,q⟩
section
variable {X : Cx}
def rEqI (K : PySem.W.Frag) (neg : Bool) : R2 := fun x y H Q => ∃ (p q : Addr) (ns ms : List Int),x = .ref p ∧ y = .ref q ∧ SqT K H p (ns.map V.int) ∧ SqT K H q (ms.map V.int) ∧ Q (.bl (if neg then !decide (ns = ms) else decide (ns = ms))) H
theorem items_eq {A : Around} {s : Shared} {ns ms : List Int} {us vs : List Value} (r : Vals (ns.map V.int) us) (r' : Vals (ms.map V.int) vs) (j : Nat) (h1 : j < us.toArray.size) (h2 : j < vs.toArray.size) :
    SeqAt.EqAt A s us.toArray[j] vs.toArray[j] (decide (ns[j]? = ms[j]?)) := by
  rw [List.size_toArray] at h1 h2
  obtain ⟨a,ea,ra⟩ := val_at r h1
  obtain ⟨b,eb,rb⟩ := val_at r' h2
  have q := eqAt_V (A := A) (s := s) ra rb rfl rfl
  have e : eqV (.int a) (.int b) = decide (ns[j]? = ms[j]?) := by
    rw [ea,eb]
    show (a == b) = decide (some a = some b)
    rw [Bool.eq_iff_iff]
    simp
  rw [e] at q
  exact q
theorem op_neI (hu : X.A.units < cLine) : OpR X (compareOp .NotEq) (rEqI X.K true) := by
  intro pins s σ H x y v u Q I rx ry h
  obtain ⟨p,q,ns,ms,rfl,rfl,hp,hq,k⟩ := h
  cases rx
  cases ry
  obtain ⟨its,r,pl,_⟩ := I.tuple hp
  obtain ⟨jts,r',pl',_⟩ := I.tuple hq
  refine SeqAt.RcNeAt.tuples pl pl' hu (items_eq r r') _ _ _ _ ⟨.bl _,H,I,rfl,?_⟩
  have e1 := r.length
  have e2 := r'.length
  rw [List.length_map] at e1 e2
  rw [List.size_toArray,List.size_toArray,← e1,← e2,all_same]
  exact k
end
end L2
namespace L2
open PySem PySem.Spec PyProof.Rows
section
variable {prog : Program} {w : World} {A : Around} {E : Value → Shared → Prop}
end
end L2
namespace L2
open PySem PySem.Spec PyProof.Rows
theorem ObjOk.has {P : Program} {w : World} {H : Hp} {h : Heap} {a : Addr} {o : HO} (x : ObjOk P w H h a o) : ∃ ob,h.get? a = some ob := by
  cases o with
  | lst xs => obtain ⟨_,_,_,_,e⟩ := x; exact ⟨_,e⟩
  | tup xs => obtain ⟨_,_,_,ob,e,_⟩ := x; exact ⟨_,e⟩
  | dK kvs => obtain ⟨_,_,_,_,ob,_,_,e,_⟩ := x; exact ⟨_,e⟩
  | dT kvs => obtain ⟨_,_,_,_,ob,_,_,e,_⟩ := x; exact ⟨_,e⟩
  | set S n => obtain ⟨ob,_,_,_,e,_⟩ := x; exact ⟨_,e⟩
  | ins C dx fs => obtain ⟨_,_,_,e,_⟩ := x; exact ⟨_,e⟩
  | own y => obtain ⟨ob,e⟩ := x; exact ⟨_,e⟩
  | xd fs => obtain ⟨_,⟨od,_,_,e,_⟩,_⟩ := x; exact ⟨_,e⟩
  | rng lo hi => obtain ⟨_,_,_,e⟩ := x; exact ⟨_,e⟩
  | frz ob u => obtain ⟨e,_⟩ := x; exact ⟨_,e⟩
  | tbl ps => exact ⟨_,(show h.get? a = some _ from x)⟩
  | met f y => exact ⟨_,(show h.get? a = some _ from x)⟩
  | ext φ => obtain ⟨_,⟨ob,e⟩,_⟩ := x; exact ⟨_,e⟩
structure Big (B : Heap) (fs : List Addr) (H' : Hp) (h : Heap) : Prop where
  tr : ∀ b o,H' b = some o → ∃ ob,B.get? b = some ob
  old : ∀ b o,h.get? b = some o → b ∉ fs → ∃ ob,B.get? b = some ob
section
variable {P : Program} {w : World} {fs fs' : List Addr} {H H1 H' : Hp} {h h1 h2 B : Heap}
theorem Un.fly (un : Un fs [] H H' h h1) (big : Big B fs H' h) (st1 : B.StaysIn h1) (st2 : B.StaysIn h2) (sl : h1.UpToSlots h2)
    (fr : ∀ b ∈ fs,H b = none ∧ ∀ o,h1.get? b = some o → ∀ vs,o.data ≠ .fields vs) : Un fs [] H H' h h2 where
  keep := fun b o e n hb hx => by
    have e1 := un.keep b o e n hb hx
    obtain ⟨ob,eb⟩ := big.old b o e hb
    have e2 := st1 b ob eb
    rw [e1] at e2
    cases e2
    exact st2 b _ eb
  slot := fun b o e n hb hx => by
    obtain ⟨s1,e1⟩ := un.slot b o e n hb hx
    obtain ⟨s2,e2⟩ := sl b _ e1 ((fr b hb).2 _ e1)
    exact ⟨s2,e2⟩
  free := un.free
  there := fun b o e hx => by
    by_cases hb : b ∈ fs
    · obtain ⟨s1,e1⟩ := un.slot b o e (fr b hb).1 hb hx
      obtain ⟨s2,e2⟩ := sl b _ e1 ((fr b hb).2 _ e1)
      exact ⟨_,e2⟩
    · obtain ⟨ob,eb⟩ := big.old b o e hb
      exact ⟨_,st2 b ob eb⟩
  tups := un.tups
  frzs := un.frzs
  tbls := un.tbls
theorem HOk.fly (hok : HOk P w H' h1) (big : Big B fs H' h) (st1 : B.StaysIn h1) (st2 : B.StaysIn h2) : HOk P w H' h2 := fun a o e => by
  refine (hok a o e).stay (fun b u hb q => ?_) (fun _ q => q) fun _ _ q => q
  have hb' : ∃ ob,B.get? b = some ob := by
    rcases hb with z | z
    · rw [z]
      exact big.tr a o e
    · exact big.tr b _ z
  obtain ⟨ob,eb⟩ := hb'
  have e2 := st1 b ob eb
  rw [q] at e2
  cases e2
  exact st2 b _ eb
theorem Un.shed (a : Un fs [] H H1 h h1) (b : Un fs' [] H1 H' h1 h2) (sub : ∀ x ∈ fs,x ∈ fs') (out : ∀ x o,h.get? x = some o → x ∈ fs' → x ∈ fs) : Un fs [] H H' h h2 where
  keep := fun x o e n hx hn => b.keep x o (a.keep x o e n hx hn) (a.free x o e n hn) (fun z => hx (out x o e z)) hn
  slot := fun x o e n hx hn => by
    obtain ⟨s1,e1⟩ := a.slot x o e n hx hn
    obtain ⟨s2,e2⟩ := b.slot x _ e1 (a.free x o e n hn) (sub x hx) hn
    exact ⟨s2,e2⟩
  free := fun x o e n hn => by
    obtain ⟨o1,e1⟩ := a.there x o e hn
    exact b.free x o1 e1 (a.free x o e n hn) hn
  there := fun x o e hn => by
    obtain ⟨o1,e1⟩ := a.there x o e hn
    exact b.there x o1 e1 hn
  tups := fun x xs e => b.tups x xs (a.tups x xs e)
  frzs := fun x o xs e => b.frzs x o xs (a.frzs x o xs e)
  tbls := fun x ps e => by
    obtain ⟨m1,e1⟩ := a.tbls x ps e
    obtain ⟨m2,e2⟩ := b.tbls x _ e1
    exact ⟨m1 ++ m2,by rw [e2,Array.append_assoc]⟩
end
def CXE (P : Program) (w : World) : CXT := fun outer H s E e s' => ∃ (ea t : Addr) (cls : Value) (H' : Hp) (B : Heap),
  e = .ref ea ∧ s'.os = s.os ∧ AllBare s'.gens ∧ Un (frs outer) [] H H' s.heap s'.heap ∧ HOk P w H' s'.heap ∧ Heap.FlyingW B outer ea cls (.ref t) s'.heap ∧ Big B (frs outer) H' s.heap ∧ E cls none H'
section
variable {P : Program} {w : World} {K : PySem.W.Frag} {mg : Str → Option Value} {base : Heap} {N : List Str} {qual : Str} {scope : Scope} {f : Addr} {cdv : Value} {A : Around} {outer : List Env} {s₀ : Shared} {H₀ : Hp} {E : XK}
theorem frs_cons {env : Env} {L : Addr} (hf : env.frame = some L) (l : List Env) : frs (env :: l) = L :: frs l := by
  unfold frs
  rw [List.filterMap_cons,hf]
theorem raised {pins : List (Addr × Obj)} {σ : St} {H : Hp} {s : Shared} {h' : Heap} {e : Addr} {cls : Value} {vs : List Value} (I : Inv (cxOf (CXE P w) P w K mg base N qual scope f cdv A outer s₀ H₀ E) pins σ H s)
    (hx : Heap.MadeExcOf s.heap h' e cls vs) (q : E cls none H) : (cxOf (CXE P w) P w K mg base N qual scope f cdv A outer s₀ H₀ E).xe (.ref e) { s with heap := h' } := by
  have hin : ∀ env ∈ (cxOf (CXE P w) P w K mg base N qual scope f cdv A outer s₀ H₀ E).stack,∀ a,env.frame = some a → a ∈ frs (cxOf (CXE P w) P w K mg base N qual scope f cdv A outer s₀ H₀ E).stack :=
    fun env he a ha => List.mem_filterMap.mpr ⟨env,he,ha⟩
  have neL : ∀ b o,s₀.heap.get? b = some o → b ∉ frs outer → b ∉ frs (cxOf (CXE P w) P w K mg base N qual scope f cdv A outer s₀ H₀ E).stack := fun b o eb hb hm => by
    rcases List.mem_cons.mp (I.stkSub b hm) with z | z
    · exact absurd z (Nat.ne_of_lt (Nat.lt_of_lt_of_le (Heap.lt_size eb) I.ok.above))
    · exact hb z
  refine wpAny_leaves_madeW (base := PySem.W.hideAll s.heap (frs (cxOf (CXE P w) P w K mg base N qual scope f cdv A outer s₀ H₀ E).stack)) (h := s.heap) (L := s₀.heap.objs.size) I.ok.frames rfl (fun b o z => PySem.W.of_hideAll _ z) (PySem.W.funFrames_hide I.stack hin) hx fun h'' t fl _ _ up => ?_
  have big : Big (PySem.W.hideAll s.heap (frs (cxOf (CXE P w) P w K mg base N qual scope f cdv A outer s₀ H₀ E).stack)) (frs outer) H s₀.heap := by
    refine ⟨fun b o eb => ?_,fun b o eb hb => ?_⟩
    · obtain ⟨ob,z⟩ := (I.hok b o eb).has
      refine ⟨ob,PySem.W.hideAll_get _ z fun hm => ?_⟩
      rw [I.stkFree b hm] at eb
      cases eb
    · obtain ⟨ob,z⟩ := I.base.there b o eb (by intro z; cases z)
      exact ⟨ob,PySem.W.hideAll_get _ z (neL b o eb hb)⟩
  have st1 : (PySem.W.hideAll s.heap (frs (cxOf (CXE P w) P w K mg base N qual scope f cdv A outer s₀ H₀ E).stack)).StaysIn s.heap := fun b o z => PySem.W.of_hideAll _ z
  have sl : s.heap.UpToSlots h'' := (Heap.UpToSlots.of_keeps hx.keeps).trans up
  exact ⟨e,t,cls,H,_,rfl,I.os,I.bare,Un.fly I.base big st1 fl.1 sl fun b hb => ⟨I.ok.frf b hb,fun o eo => by
      obtain ⟨_,o',eo',nf⟩ := I.funs.mem hb
      rw [eo] at eo'
      cases eo'
      exact nf⟩,HOk.fly I.hok big st1 fl.1,fl,big,q⟩
theorem pass_on {E1 : XK} (hE : ∀ c o H',E1 c o H' → E c o H') : Passes (CXE P w) (cxOf (CXE P w) P w K mg base N qual scope f cdv A outer s₀ H₀ E) E1 := by
  intro pins σ H s e s' I h
  obtain ⟨ea,t,cls,H',B,rfl,os,bare,un,hok,fl,big,q⟩ := h
  refine wpAny_leaves_onW (L := s₀.heap.objs.size) I.ok.frames rfl fl fun h'' fl' up => ?_
  have out : ∀ x o,s₀.heap.get? x = some o → x ∈ frs (cxOf (CXE P w) P w K mg base N qual scope f cdv A outer s₀ H₀ E).stack → x ∈ frs outer := fun x o ex hm => by
    rcases List.mem_cons.mp (I.stkSub x hm) with z | z
    · exact absurd z (Nat.ne_of_lt (Nat.lt_of_lt_of_le (Heap.lt_size ex) I.ok.above))
    · exact z
  have sub : ∀ x ∈ frs outer,x ∈ frs (cxOf (CXE P w) P w K mg base N qual scope f cdv A outer s₀ H₀ E).stack := fun x hx => by
    show x ∈ frs (_ :: outer)
    rw [frs_cons (L := s₀.heap.objs.size) rfl]
    exact List.mem_cons_of_mem _ hx
  have un1 : Un (frs outer) [] H₀ H' s₀.heap s'.heap := Un.shed I.base un sub out
  have big1 : Big B (frs outer) H' s₀.heap := by
    refine ⟨big.tr,fun b o eb hb => ?_⟩
    obtain ⟨ob,z⟩ := I.base.there b o eb (by intro z; cases z)
    exact big.old b ob z fun hm => hb (out b o eb hm)
  refine ⟨ea,t,cls,H',B,rfl,os.trans I.os,bare,Un.fly un1 big1 fl.1 fl'.1 up fun b hb => ⟨I.ok.frf b hb,fun o eo => ?_⟩,HOk.fly hok big1 fl.1 fl'.1,fl',big1,hE _ _ _ q⟩
  obtain ⟨_,o',eo',nf⟩ := fl'.2.2.1.mem hb
  obtain ⟨_,o2,eo2,nf2⟩ := fl.2.2.1.mem (sub b hb)
  rw [eo] at eo2
  cases eo2
  exact nf2
end
structure ExcC (K : PySem.W.Frag) (mg : Str → Option Value) (x : Str) (C : Addr) : Prop where
  bound : mg x = some (.ref C)
  obj : ∀ h : Heap,K.In h → ∃ bm N nm qn bs hd sn sub ab col dd k0 k1 k2 k3 k5 mN,h.get? C = some (excClassObj nm qn C N bs bm hd sn sub ab col dd k0 k1 k2 k3 k5 "ValueError.__new__") ∧ h.Ns N mN ∧ mN "__init__" = none ∧
    OwnTail h [.type "ValueError",.type "Exception",.type "BaseException",.type "object"] bm
theorem exc_obj {K : PySem.W.Frag} {h : Heap} {C : Addr} {bmB : List Value} {newId : String} (X : K.In h) (q : PySem.W.excIn K C bmB newId = true) :
    ∃ bm N nm qn bs hd sn sub ab col dd k0 k1 k2 k3 k5 mN,h.get? C = some (excClassObj nm qn C N bs bm hd sn sub ab col dd k0 k1 k2 k3 k5 newId) ∧ h.Ns N mN ∧ mN "__init__" = none ∧ OwnTail h bmB bm := by
  unfold PySem.W.excIn at q
  split at q
  next dct cl sls look =>
    split at q
    next C2 bms a0 a1 a2 a3 nid a5 hmro hsls =>
      simp only [Bool.not_eq_true',beq_iff_eq,Bool.and_eq_true] at q
      obtain ⟨⟨⟨⟨⟨q1,q2⟩,q3⟩,q4⟩,q5⟩,q6⟩ := q
      subst q1 q2
      obtain ⟨c1,c2,c3,c4,c5,c6,c7,c8,c9,c10,c11⟩ := cl
      dsimp only at hmro q3 q5 q6
      subst hmro q3
      obtain ⟨lst⟩ := sls
      simp only at hsls
      subst hsls
      exact ⟨bms,c4,c1,c5,c2,c6,c7,c8,c9,c10,dct,a0,a1,a2,a3,a5,_,X _ _ look,.of_isNs (PySem.W.isNs_of_in X q5),PySem.W.nsMap_none_of_in X q5 q6,PySem.W.tail_of_in X q4⟩
    next => cases q
  next => cases q
theorem exc_mk {K : PySem.W.Frag} {mg : Str → Option Value} {h : Heap} {x : Str} {C : Addr} (X : K.In h) (G : h.Ns mainGlobals mg) (a : PySem.W.nsIn K mainGlobals x = some (some (.ref C)))
    (q : PySem.W.excIn K C [.type "ValueError",.type "Exception",.type "BaseException",.type "object"] "ValueError.__new__" = true) : ExcC K mg x C := ⟨PySem.W.mg_of X G a,fun _ Y => exc_obj Y q⟩
section
variable {P : Program} {w : World} {K : PySem.W.Frag} {mg : Str → Option Value} {base : Heap} {N : List Str} {qual : Str} {scope : Scope} {f : Addr} {cdv : Value} {A : Around} {outer : List Env} {s₀ : Shared} {H₀ : Hp} {E : XK}
theorem ps_raise {x : Str} {C : Addr} {np cpos pos : Pos} (O : ExcC K mg x C) (hg : Gl (cxOf (CXE P w) P w K mg base N qual scope f cdv A outer s₀ H₀ E) x) (hdb : (x == ("__debug__" : Str)) = false := by decide) :
    PS (cxOf (CXE P w) P w K mg base N qual scope f cdv A outer s₀ H₀ E) (.Raise (some (.Call (.Name x np) [] [] cpos)) none pos) (fun _ _ H => E (.ref C) none H) := by
  intro pins s σ H D I h
  obtain ⟨bm,N',nm,qn,bs,hd,sn,sub,ab,col,dd,k0,k1,k2,k3,k5,mN,hC,hN,hni,T⟩ := O.obj s.heap I.kIn
  refine wpAny_Raise_call_subT (C := C) (nm := nm) (q := qn) (N := N') (bs := bs) (bm := bm) (hdct := hd) (sn := sn) (sub := sub) (ab := ab) (col := col) (dd := dd) (k0 := k0) (k1 := k1) (k2 := k2) (k3 := k3) (k5 := k5) PySem.F.excBase_ValueError (mN := mN) (T.hasType (by decide +kernel)) (I.ok.hd rfl) rfl hni (ld_glob I hg O.bound ⟨rfl,?_⟩ hdb)
  exact evalArgs_empty ⟨rfl,Nat.zero_le _,hC,hN,T,fun h' e hx => raised I hx h⟩
end
abbrev Cx.inH (X : Cx) (e : Addr) : Cx := { X with A := X.A.mark (some (.ref e)),calm := false,xe := fun _ _ => False }
theorem Inv.inH {X : Cx} {pins : List (Addr × Obj)} {σ : St} {H : Hp} {s : Shared} (I : Inv X pins σ H s) (e : Addr) : Inv (X.inH e) pins σ H s :=
  ⟨⟨I.ok.mod,I.ok.kind,I.ok.glob,I.ok.blt,I.ok.above,I.ok.inj,I.ok.has,I.ok.cab,(fun z => by cases z),I.ok.frames,I.ok.stk,I.ok.exf,I.ok.bs,I.ok.bsz,I.ok.noex,I.ok.exfs,I.ok.funs,I.ok.frf⟩,
    I.os,I.bare,I.base,I.loc,I.cell,I.free,I.freeC,I.pin,I.hok,I.len⟩
theorem Inv.outH {X : Cx} {e : Addr} {pins : List (Addr × Obj)} {σ : St} {H : Hp} {s : Shared} (ok : X.Ok) (I : Inv (X.inH e) pins σ H s) : Inv X pins σ H s :=
  ⟨ok,I.os,I.bare,I.base,I.loc,I.cell,I.free,I.freeC,I.pin,I.hok,I.len⟩
section
variable {X : Cx}
end
abbrev TX := (Value → St → Hp → Prop) → TS
def XP (X : Cx) (pins : List (Addr × Obj)) (R : Value → St → Hp → Prop) (ev : Value) (s' : Shared) : Prop :=
  ∃ (s₁ : Shared) (σ₁ : St) (H₁ : Hp) (E1 : XK),Inv X pins σ₁ H₁ s₁ ∧ CXE X.prog X.w X.stack H₁ s₁ E1 ev s' ∧ ∀ c o H',E1 c o H' → R c σ₁ H'
def PX (X : Cx) (st : Stmt) (t : TX) : Prop :=
  ∀ (pins : List (Addr × Obj)) (s : Shared) (σ : St) (H : Hp) (D : Ends) (R : Value → St → Hp → Prop),Inv X pins σ H s → t R D σ H → wpAny (model X.prog X.w) X.A (exec st X.env) (SP X pins D) (XP X pins R) s
def PXs (X : Cx) (st : List Stmt) (t : TX) : Prop :=
  ∀ (pins : List (Addr × Obj)) (s : Shared) (σ : St) (H : Hp) (D : Ends) (R : Value → St → Hp → Prop),Inv X pins σ H s → t R D σ H → wpAny (model X.prog X.w) X.A (execs st X.env) (SP X pins D) (XP X pins R) s
structure Fx (P : Program) (w : World) (K : PySem.W.Frag) (mg : Str → Option Value) (base : Heap) (x : Str) (ps : List Str) (k : Nat) (ds : List V) (sp : Sp) : Prop where
  ex : ∃ (f : Addr) (fd : FuncData) (its : List Value),mg x = some (.ref f) ∧ PySem.W.keepIn K (.ref f) = true ∧ Binds K fd ps [] ∧ Binds K fd ps its ∧ Vals ds its ∧ FnOk P w K mg base (CXE P w) k f fd ps sp
structure DfD (K : PySem.W.Frag) (mg : Str → Option Value) (x : Str) (st : Stmt) (ds : List V) : Prop where
  ex : ∃ (f T : Addr) (oT : Obj) (n : Nat) (its : List Value) (oc : Value) (od : Option Addr) (kV doc pm : Value) (an : Option Addr) (cdv ct : Value) (osl : Array (Option Value)),
    mg x = some (.ref f) ∧ K.lookup f = some ⟨oc,od,.func (PySem.W.fnOf x x (defArgs st) (defBody st) (defScope st) (.ref T) kV doc pm an cdv ct),osl⟩ ∧ PySem.W.codeIn K cdv x = true ∧ PySem.W.keepIn K (.ref f) = true ∧ K.lookup T = some oT ∧ oT.data = .seq its.toArray n ∧ Vals ds its
theorem dfd_mk {K : PySem.W.Frag} {mg : Str → Option Value} {h : Heap} {x : Str} {st : Stmt} {ds : List V} {its : List Value} {f T : Addr} {oT : Obj} {n : Nat} {oc : Value} {od an : Option Addr} {osl : Array (Option Value)} {kV doc pm cdv ct : Value} (X : K.In h) (G : h.Ns mainGlobals mg)
    (a : PySem.W.nsIn K mainGlobals x = some (some (.ref f))) (l : K.lookup f = some ⟨oc,od,.func (PySem.W.fnOf x x (defArgs st) (defBody st) (defScope st) (.ref T) kV doc pm an cdv ct),osl⟩) (c : PySem.W.codeIn K cdv x = true) (k : PySem.W.keepIn K (.ref f) = true)
    (t : K.lookup T = some oT) (d : oT.data = .seq its.toArray n) (v : Vals ds its) : DfD K mg x st ds := ⟨⟨f,T,oT,n,its,oc,od,kV,doc,pm,an,cdv,ct,osl,PySem.W.mg_of X G a,l,c,k,t,d,v⟩⟩
theorem DfD.fx {P : Program} {w : World} {K : PySem.W.Frag} {mg : Str → Option Value} {base : Heap} {x : Str} {st : Stmt} {ds : List V} {N ps : List Str} {k : Nat} {sp : Sp} (D : DfD K mg x st ds) (S : FnScope N ps (defScope st))
    (hb : ∀ (T : Addr) (kV doc pm : Value) (an : Option Addr) (cdv ct : Value) (us its : List Value) (oT : Obj) (n : Nat) (s : Shared),Vals ds its → us.length = ps.length → s.heap.get? T = some oT → oT.data = .seq its.toArray n →
      BindsTo s (PySem.W.fnOf x x (defArgs st) (defBody st) (defScope st) (.ref T) kV doc pm an cdv ct) ⟨us,[]⟩ (ps.zip us))
    (hd : ∀ (T : Addr) (kV doc pm : Value) (an : Option Addr) (cdv ct : Value) (us its : List Value) (oT : Obj) (n : Nat) (s : Shared),Vals ds its → (us ++ its).length = ps.length → s.heap.get? T = some oT → oT.data = .seq its.toArray n →
      BindsTo s (PySem.W.fnOf x x (defArgs st) (defBody st) (defScope st) (.ref T) kV doc pm an cdv ct) ⟨us,[]⟩ (ps.zip (us ++ its)))
    (len : ∀ vs H Q E,sp vs H Q E → vs.length = ps.length)
    (hbody : ∀ (f : Addr) (cdv : Value) (A : Around) (outer : List Env) (s : Shared) (H : Hp) (vs : List V) (Q : VK) (E : XK),Room k (A.deeper (envOfC x (defScope st) s.heap.objs.size f cdv)) → sp vs H Q E →
      ∃ t,PSs (cxOf (CXE P w) P w K mg base N x (defScope st) f cdv A outer s H E) (defBody st) t ∧ t { nx := fun _ H' => Q .non H',rt := Q } (start N vs) H) : Fx P w K mg base x ps (k + 1) ds sp := by
  obtain ⟨f,T,oT,n,its,oc,od,kV,doc,pm,an,cdv,ct,osl,hm,lk,hcd,hk,hT,hs,hv⟩ := D.ex
  refine ⟨⟨f,_,its,hm,hk,fun s us KX hl => ?_,fun s us KX hl => hd T kV doc pm an cdv ct us its oT n s hv hl (KX _ _ hT) hs,hv,fn_of lk hcd S len fun A outer s H vs Q E hr hsp => hbody f cdv A outer s H vs Q E hr hsp⟩⟩
  rw [List.append_nil] at hl ⊢
  exact hb T kV doc pm an cdv ct us its oT n s hv hl (KX _ _ hT) hs
theorem Df.fx {P : Program} {w : World} {K : PySem.W.Frag} {mg : Str → Option Value} {base : Heap} {x : Str} {st : Stmt} {N ps : List Str} {k : Nat} {sp : Sp} (D : Df K mg x st) (S : FnScope N ps (defScope st))
    (hbind : ∀ (kV doc pm : Value) (an : Option Addr) (cdv ct : Value) (us : List Value),us.length = ps.length → bindArgs (PySem.W.fnOf x x (defArgs st) (defBody st) (defScope st) .none kV doc pm an cdv ct) ⟨us,[]⟩ = pure (ps.zip us))
    (len : ∀ vs H Q E,sp vs H Q E → vs.length = ps.length)
    (hbody : ∀ (f : Addr) (cdv : Value) (A : Around) (outer : List Env) (s : Shared) (H : Hp) (vs : List V) (Q : VK) (E : XK),Room k (A.deeper (envOfC x (defScope st) s.heap.objs.size f cdv)) → sp vs H Q E →
      ∃ t,PSs (cxOf (CXE P w) P w K mg base N x (defScope st) f cdv A outer s H E) (defBody st) t ∧ t { nx := fun _ H' => Q .non H',rt := Q } (start N vs) H) : Fx P w K mg base x ps (k + 1) [] sp := by
  obtain ⟨f,oc,od,kV,doc,pm,an,cdv,ct,osl,hm,lk,hcd,hk⟩ := D.ex
  have hb : Binds K (PySem.W.fnOf x x (defArgs st) (defBody st) (defScope st) .none kV doc pm an cdv ct) ps [] := .all (hbind kV doc pm an cdv ct)
  exact ⟨⟨f,_,[],hm,hk,hb,hb,.nil,fn_of lk hcd S len fun A outer s H vs Q E hr hsp => hbody f cdv A outer s H vs Q E hr hsp⟩⟩
theorem pe_fx {P : Program} {w : World} {K : PySem.W.Frag} {mg : Str → Option Value} {base : Heap} {N : List Str} {qual : Str} {scope : Scope} {f : Addr} {cdv : Value} {A : Around} {outer : List Env} {s₀ : Shared} {H₀ : Hp} {E : XK}
    {x : Str} {ps : List Str} {k : Nat} {ds : List V} {sp : Sp} {p pos : Pos} {e : Expr} {es : List Expr} {t : TA} (F : Fx P w K mg base x ps k ds sp) (hr : Room k (cxOf (CXE P w) P w K mg base N qual scope f cdv A outer s₀ H₀ E).A) (hg : Gl (cxOf (CXE P w) P w K mg base N qual scope f cdv A outer s₀ H₀ E) x)
    (ha : PA (cxOf (CXE P w) P w K mg base N qual scope f cdv A outer s₀ H₀ E) (e :: es) t)
    (hdb : (x == ("__debug__" : Str)) = false := by decide) (he : starEach (e :: es) (cxOf (CXE P w) P w K mg base N qual scope f cdv A outer s₀ H₀ E).env = (false,eval e (cxOf (CXE P w) P w K mg base N qual scope f cdv A outer s₀ H₀ E).env) :: starEach es (cxOf (CXE P w) P w K mg base N qual scope f cdv A outer s₀ H₀ E).env := by rfl)
    (hpl : (backTo pos (starEach es (cxOf (CXE P w) P w K mg base N qual scope f cdv A outer s₀ H₀ E).env)).any (·.1) = false := by rfl) :
    PE (cxOf (CXE P w) P w K mg base N qual scope f cdv A outer s₀ H₀ E) (.Call (.Name x p) (e :: es) [] pos) (tCall sp [] E t) := by
  obtain ⟨g,fd,its,hm,hk,hb,_,_,G⟩ := F.ex
  exact pe_call G hr hg hm hk hb .nil (pass_on fun _ _ _ z => z) ha hdb he hpl
theorem pass_none {P : Program} {w : World} {X : Cx} : Passes (CXE P w) X E0 := fun _ _ _ _ _ _ _ h => by
  obtain ⟨_,_,_,_,_,_,_,_,_,_,_,_,q⟩ := h
  exact q.elim
theorem pe_fx0 {X : Cx} {x : Str} {ps : List Str} {k : Nat} {ds : List V} {sp : Sp} {p pos : Pos} {e : Expr} {es : List Expr} {t : TA} (F : Fx X.prog X.w X.K X.mg X.base x ps k ds sp) (hr : Room k X.A) (hg : Gl X x) (ha : PA X (e :: es) t)
    (hdb : (x == ("__debug__" : Str)) = false := by decide) (he : starEach (e :: es) X.env = (false,eval e X.env) :: starEach es X.env := by rfl) (hpl : (backTo pos (starEach es X.env)).any (·.1) = false := by rfl) :
    PE X (.Call (.Name x p) (e :: es) [] pos) (tCall sp [] E0 t) := by
  obtain ⟨g,fd,its,hm,hk,hb,_,_,G⟩ := F.ex
  exact pe_call G hr hg hm hk hb .nil pass_none ha hdb he hpl
theorem pe_fxd0 {X : Cx} {x : Str} {ps : List Str} {k : Nat} {ds : List V} {sp : Sp} {p pos : Pos} {e : Expr} {es : List Expr} {t : TA} (F : Fx X.prog X.w X.K X.mg X.base x ps k ds sp) (hr : Room k X.A) (hg : Gl X x) (ha : PA X (e :: es) t)
    (hdb : (x == ("__debug__" : Str)) = false := by decide) (he : starEach (e :: es) X.env = (false,eval e X.env) :: starEach es X.env := by rfl) (hpl : (backTo pos (starEach es X.env)).any (·.1) = false := by rfl) :
    PE X (.Call (.Name x p) (e :: es) [] pos) (tCall sp ds E0 t) := by
  obtain ⟨g,fd,its,hm,hk,_,hb,hv,G⟩ := F.ex
  exact pe_call G hr hg hm hk hb hv pass_none ha hdb he hpl
section
variable {X : Cx}
theorem run_fx {pins : List (Addr × Obj)} {s : Shared} {σ : St} {H : Hp} {Q : VK} {R : Value → St → Hp → Prop} {x : Str} {ps : List Str} {k : Nat} {ds : List V} {sp : Sp} {p pos : Pos} {e : Expr} {es : List Expr} {t : TA} (I : Inv X pins σ H s)
    (F : Fx X.prog X.w X.K X.mg X.base x ps k ds sp) (hr : Room k X.A) (hg : Gl X x) (ha : PA X.nox (e :: es) t) (q : t σ H fun vs H1 => sp vs H1 Q fun c _ H2 => R c σ H2)
    (hdb : (x == ("__debug__" : Str)) = false) (he : starEach (e :: es) X.env = (false,eval e X.env) :: starEach es X.env) (hpl : (backTo pos (starEach es X.env)).any (·.1) = false) :
    wpAny (model X.prog X.w) X.A (eval (.Call (.Name x p) (e :: es) [] pos) X.env) (EP X pins σ Q) (XP X pins R) s := by
  obtain ⟨f,fd,its,hm,hk,hb,_,_,G⟩ := F.ex
  refine wpAny_Call_Name_kw (ld_glob I hg hm ?_ hdb)
  refine PySem.W.callWith_K (h₀ := X.base) I.ok.mod.kin hk (wpAny_mono (ha pos pins s σ H _ (I.wish _) q) (fun us s1 ⟨vs,H1,J1,r,q1⟩ => ?_) fun _ _ z => False.elim z) he hpl
  have I1 : Inv X pins σ H1 s1 := J1.unwish
  refine ⟨I1.kIn,?_⟩
  have hl : (us ++ []).length = ps.length := by rw [List.append_nil,← r.length]; exact G.len _ _ _ _ q1
  have hbb := hb s1 us I1.kIn hl
  rw [List.append_nil] at hbb
  refine wpAny_call (codeAny_mono (G.run X.A X.stack s1 H1 ⟨us,[]⟩ us vs Q _ hr I1.env0 hbb r q1) fun rr s' hq => ?_)
  cases rr with
  | error ev => exact ⟨s1,σ,H1,(fun c _ H2 => R c σ H2),I1,hq,fun c o H' z => z⟩
  | ok flw =>
    cases flw with
    | ret u => exact I1.after hq
    | next => exact False.elim hq
    | brk => exact False.elim hq
    | cont => exact False.elim hq
variable {x fn : Str} {i : Nat} {ps : List Str} {k : Nat} {ds : List V} {sp : Sp} {e : Expr} {es : List Expr} {ta : TA} {px pf cpos pos : Pos}
theorem px_expr (F : Fx X.prog X.w X.K X.mg X.base fn ps k ds sp) (hr : Room k X.A) (hg : Gl X fn) (ha : PA X.nox (e :: es) ta) (hs : swapsWith (.Call (.Name fn pf) (e :: es) [] cpos) none pos.line X.env = pure false := by rfl)
    (hdb : (fn == ("__debug__" : Str)) = false := by decide) (he : starEach (e :: es) X.env = (false,eval e X.env) :: starEach es X.env := by rfl) (hpl : (backTo cpos (starEach es X.env)).any (·.1) = false := by rfl) :
    PX X (.Expr (.Call (.Name fn pf) (e :: es) [] cpos) pos) (fun R D σ H => ta σ H fun vs H1 => sp vs H1 (fun _ H2 => D.nx σ H2) fun c _ H2 => R c σ H2) := by
  intro pins s σ H D R I h
  exact wpAny_Expr_any (thn (run_fx I F hr hg ha h hdb he hpl) fun v s1 ⟨y,H1,I1,r1,q1⟩ => ⟨σ,H1,I1,q1⟩) I.quiet hs
theorem pxs_one {st : Stmt} {t : TX} (h1 : PX X st t) : PXs X [st] t := by
  intro pins s σ H D R I h
  refine wpAny_execs_cons (thn (h1 pins s σ H D R I h) fun f s1 q => ?_)
  cases f with
  | next => exact wpAny_execs_nil q
  | ret v => exact q
  | brk => exact q
  | cont => exact q
end
end L2
namespace Sp2
open PySem PySem.Spec L2 Mth Sp1
def placeL (n : Int) : List V → Bool
  | [.int a,.int b] => lowB a b && (decide (0 ≤ a) && decide (a ≤ n * b))
  | _ => false
def placeV (n : Int) (H : Hp) : V → Bool
  | .ref p => match H p with
    | some (.tup xs) => placeL n xs
    | _ => false
  | _ => false
theorem lowV_inv {H : Hp} {x : V} (h : lowV H x = true) : ∃ p a b,x = .ref p ∧ H p = some (.tup [.int a,.int b]) ∧ Low a b := by
  unfold lowV at h
  split at h
  · split at h
    · rename_i p _ xs e
      unfold lowL at h
      split at h
      · rename_i a b
        unfold lowB at h
        rw [Bool.and_eq_true,decide_eq_true_eq,decide_eq_true_eq] at h
        exact ⟨p,a,b,rfl,e,h.1,h.2⟩
      · cases h
    · cases h
  · cases h
theorem placeV_tup {n : Int} {H : Hp} {p : Addr} {a b : Int} (e : H p = some (.tup [.int a,.int b])) : placeV n H (.ref p) = (lowB a b && (decide (0 ≤ a) && decide (a ≤ n * b))) := by
  simp only [placeV,e,placeL]
theorem lowV_two {H : Hp} {p : Addr} {a b : Int} (e : H p = some (.tup [.int a,.int b])) : lowV H (.ref p) = lowB a b := by
  simp only [lowV,e,lowL]
theorem placeV_low {n : Int} {H : Hp} {x : V} (h : lowV H x = false) : placeV n H x = false := by
  unfold placeV
  split
  · split
    · rename_i p _ xs e
      unfold placeL
      split
      · rename_i a b
        rw [lowV_two e] at h
        rw [h,Bool.false_and]
      · rfl
    · rfl
  · rfl
theorem low_B {a b : Int} (h : Low a b) : lowB a b = true := by
  unfold lowB
  rw [decide_eq_true h.pos,decide_eq_true h.one]
  rfl
def spLast : Sp := fun vs H Q _ => ∃ (p : Addr) (xs : List V),vs = [.ref p] ∧ H p = some (.lst xs) ∧ Q (.int ((xs.length : Int) - 1)) H
def spIsPlace : Sp := fun vs H Q _ => ∃ (p : Addr) (xs : List V) (x : V),vs = [.ref p,x] ∧ H p = some (.lst xs) ∧ xs.length ≤ 100 ∧ Thing H x ∧ Q (.bl (placeV ((xs.length : Int) - 1) H x)) H
def shareB (a b c d : Int) : Bool := if c * b < a * d then !decide ((c / d + 1) * b < a * 1) else !decide ((a / b + 1) * d < c * 1)
structure Small (a b : Int) : Prop where
  pos : 0 < b
  ba : bits a ≤ 1000
  bb : bits b ≤ 1000
def spShare : Sp := fun vs H Q _ => ∃ (p q : Addr) (a b c d : Int),vs = [.ref p,.ref q] ∧ H p = some (.tup [.int a,.int b]) ∧ H q = some (.tup [.int c,.int d]) ∧ Small a b ∧ Small c d ∧ ∀ H',Same H H' → Q (.bl (shareB a b c d)) H'
theorem lt64s {n : Int} (h0 : -1000 ≤ n) (h1 : n ≤ 1000) : -(2 ^ 64) < n ∧ n < 2 ^ 64 := by
  have e : (2 : Int) ^ 64 = 18446744073709551616 := by decide
  rw [e]
  omega
theorem at_int {ns : List Int} {k : Int} (j : Nat) (e : k = (j : Int)) (h : j < ns.length) : atI (ns.map V.int) k = some (.int ns[j]) := by
  subst e
  exact atI_nat (by rw [List.getElem?_map,List.getElem?_eq_getElem h]; rfl)
theorem cut_from {ns : List Int} (k : Nat) : cutV (ns.map V.int) (some (k : Int)) none = (ns.drop k).map V.int := by
  unfold cutV
  rw [HT.sIx_nat,HT.sIx_none,List.length_map,← List.map_drop]
  by_cases h : k ≤ ns.length
  · rw [Nat.min_eq_left h,List.take_of_length_le (by rw [List.length_map,List.length_drop]; exact Nat.le_refl _)]
  · rw [Nat.min_eq_right (by omega),List.drop_eq_nil_of_le (Nat.le_refl _),List.drop_eq_nil_of_le (by omega)]
    simp
theorem bits_small {n : Int} (h0 : -1000 ≤ n) (h1 : n ≤ 1000) : bits n ≤ 10 := by
  refine bits_of (n := 10) ?_
  show _ < 1024
  omega
theorem fl_le {a b : Int} (hb : 0 < b) : a / b * b ≤ a := by
  have h1 := Int.emod_nonneg a (show b ≠ 0 by omega)
  have h2 := Int.emod_add_mul_ediv a b
  rw [Int.mul_comm] at h2
  omega
theorem fl_lt {a b : Int} (hb : 0 < b) : a < (a / b + 1) * b := by
  have h1 := Int.emod_lt_of_pos a hb
  have h2 := Int.emod_add_mul_ediv a b
  rw [Int.add_mul,Int.one_mul,Int.mul_comm]
  omega
theorem fl_ge {a b k : Int} (hb : 0 < b) (h : k * b ≤ a) : k ≤ a / b := (Int.le_ediv_iff_mul_le hb).mpr h
theorem fl_nn {a b : Int} (hb : 0 < b) (h : 0 ≤ a) : 0 ≤ a / b := Int.ediv_nonneg h (by omega)
end Sp2
namespace L2
open PySem PySem.Spec PyProof.Rows
theorem op_isnotB {X : Cx} : OpR X (compareOp .IsNot) (fun x y H Q => ∃ a b,x = .bl a ∧ y = .bl b ∧ Q (.bl (!(a == b))) H) := by
  intro pins s σ H x y v u Q I rx ry h
  obtain ⟨a,b,rfl,rfl,q⟩ := h
  cases rx
  cases ry
  refine wpAny_isNot_plain (by cases a <;> cases b <;> rfl) ⟨.bl _,H,I,?_,q⟩
  cases a <;> cases b <;> rfl
end L2
namespace L2
open PySem PySem.Spec PyProof.Rows
abbrev Cx.blk (X : Cx) (N' : List Str) (scope : Scope) (cl : List (Str × Addr)) (fp : List Addr) (s₀ : Shared) (H₀ : Hp) : Cx :=
  { X with N := N',s₀ := s₀,H₀ := H₀,env := compEnvC scope cl s₀.heap.objs.size X.env,outer := X.stack,ex := fp,fn := fun _ => false,pn := [],xe := fun _ _ => False }
theorem lookup_mem {α : Type} {y : Str} {c : α} : ∀ {l : List (Str × α)},l.lookup y = some c → (y,c) ∈ l
  | [],h => by simp at h
  | (n,d) :: r,h => by
    rw [List.lookup_cons] at h
    cases e : y == n with
    | true =>
      rw [e] at h
      cases h
      rw [beq_iff_eq.mp e]
      exact List.mem_cons_self
    | false =>
      rw [e] at h
      exact List.mem_cons_of_mem _ (lookup_mem h)
structure CompN (X : Cx) (scope : Scope) (cl : List (Str × Addr)) (x : Str) (fv : List (Str × Nat)) : Prop where
  clos : closureFor scope X.env = pure cl
  kind : scope.kind = .function
  cell : ∀ y ∈ scope.names,y.2 ≠ .cell
  names : ∀ y ∈ scope.names,y.2 = .local → scope.names.lookup y.1 = some .local
  own : scope.names.lookup x = some .local
  cells : ∀ p ∈ cl,X.env.cells.lookup p.1 = some p.2
  has : ((relabel scope X.env).names.all fun q => !(q.2 == .cell || q.2 == .free) || (cl.lookup q.1).isSome) = true
  nd : (x :: fv.map (·.1)).Nodup
  slot : ∀ p ∈ fv,X.N[p.2]? = some p.1 ∧ X.env.kindOf p.1 = some .cell ∧ Vis X.env.scope p.1 ∧ (cl.lookup p.1).isSome = true ∧ ((relabel scope X.env).names.lookup p.1 = some .cell)
  stk : X.stack = X.env :: X.outer ∧ X.env.frame = some X.env.locals
  noex : X.ex = []
def fvs (fv : List (Str × Nat)) (σ : St) : St := fv.map fun p => (σ[p.2]?).join
def tComp (wi : TI) (fv : List (Str × Nat)) (te : TE) : TE := fun σ H Q => wi σ H fun J H1 => ∀ p,H1 p = none → ∃ W : Nat → Nat → List V → Hp → Prop,(∃ m,W 0 m [] (upd H1 p (.lst []))) ∧ ∀ i m acc H2,W i m acc H2 →
  H2 p = some (.lst acc) ∧ acc.length < sizeLine ∧ ((J.stop i H2 ∧ Q (.ref p) H2) ∨ (J.go i H2 ∧ ∀ x H3,J.yld i H2 x H3 → te (some x :: fvs fv σ) H3 fun y H4 => H4 p = some (.lst acc) ∧ ∃ m',m' < m ∧ W (i + 1) m' (acc ++ [y]) (upd H4 p (.lst (acc ++ [y])))))
section
variable {X : Cx} {scope : Scope} {cl : List (Str × Addr)} {x : Str} {fv : List (Str × Nat)} {elt iter : Expr} {px pos : Pos} {te : TE}
theorem blk_ok {pins : List (Addr × Obj)} {σ : St} {H : Hp} {s : Shared} {fp : List Addr} (C : CompN X scope cl x fv) (I : Inv X pins σ H s) (hf : ∀ b ∈ fp,FpOk X pins H b) (ho : ∀ b ∈ fp,b < s.heap.objs.size) : (X.blk (x :: fv.map (·.1)) scope cl fp s H).Ok := by
  have hcl : ∀ y c,cl.lookup y = some c → X.env.cells.lookup y = some c := fun y c h => C.cells _ (lookup_mem h)
  have old : ∀ b ∈ fp,X.s₀.heap.objs.size ≤ b := fun b hb => by
    rcases (hf b hb).2.2.2.1 with z | z
    · rw [C.noex] at z
      cases z
    · exact z
  refine ⟨I.ok.mod,by show (relabel scope X.env).kind = _; exact C.kind,I.ok.glob,I.ok.blt,Nat.le_refl _,fun y z c h1 h2 => I.ok.inj y z c (hcl y c h1) (hcl z c h2),fun y hy => ?_,(fun y c h => by cases h),I.ok.hd,I.ok.frames,.inl rfl,fun b hb => ?_,fun b o e => I.bs b o e,Nat.le_trans I.ok.bsz I.sz,fun b o e hb => ?_,fun b hb hm => ?_,I.stack,I.stkFree⟩
  · have q := C.has
    rw [List.all_eq_true] at q
    have hm : ∃ k,(y,k) ∈ (relabel scope X.env).names ∧ (k = .cell ∨ k = .free) := by
      rcases hy with hy | hy
      · exact ⟨_,lookup_mem hy,.inl rfl⟩
      · exact ⟨_,lookup_mem hy,.inr rfl⟩
    obtain ⟨k,hk,hk2⟩ := hm
    have q2 := q _ hk
    have q3 : (cl.lookup y).isSome = true := by
      rcases hk2 with rfl | rfl
      · simpa using q2
      · simpa using q2
    exact Option.isSome_iff_exists.mp q3
  · obtain ⟨f0,f1,f2,f3,f4,f5⟩ := hf b hb
    refine ⟨?_,fun y c h => f4 y c (hcl y c h)⟩
    exact Nat.ne_of_lt (ho b hb)
  · have z := Heap.lt_size e
    have z2 := old b hb
    exact absurd (Nat.lt_of_lt_of_le z (Nat.le_trans I.ok.bsz z2)) (Nat.lt_irrefl _)
  · obtain ⟨f0,f1,f2,f3,f4,f5⟩ := hf b hb
    rcases List.mem_cons.mp (I.stkSub b hm) with z | z
    · exact f1 z
    · exact f2 z
theorem blk_inv {pins : List (Addr × Obj)} {σ : St} {H : Hp} {s s4 : Shared} {fp : List Addr} (C : CompN X scope cl x fv) (I : Inv X pins σ H s) (hf : ∀ b ∈ fp,FpOk X pins H b) (ho : ∀ b ∈ fp,b < s.heap.objs.size)
    (hs : s4.os = s.os ∧ s4.gens = s.gens) (ns : s4.heap.Ns s.heap.objs.size fun _ => none) (kp : ∀ b o,s.heap.get? b = some o → s4.heap.get? b = some o) :
    Inv (X.blk (x :: fv.map (·.1)) scope cl fp s H) [] (none :: fvs fv σ) H s4 := by
  have hcl : ∀ y c,cl.lookup y = some c → X.env.cells.lookup y = some c := fun y c h => C.cells _ (lookup_mem h)
  refine ⟨blk_ok C I hf ho,hs.1,by rw [hs.2]; exact I.bare,Un.kept kp,⟨_,ns,fun i y v e1 e2 e3 => ?_⟩,fun y c h => ?_,I.hok.fresh (Nat.le_refl _),fun y c h => I.freeC y c (hcl y c h),fun p hp => by simp at hp,I.hok.kept kp,by simp [fvs]⟩
  · cases i with
    | zero => simp at e2
    | succ j =>
      have e1' : (fv.map (·.1))[j]? = some y := by simpa using e1
      have e2' : (fvs fv σ)[j]? = some (some v) := by simpa using e2
      rw [List.getElem?_map] at e1'
      unfold fvs at e2'
      rw [List.getElem?_map] at e2'
      cases hq : fv[j]? with
      | none =>
        rw [hq] at e1'
        cases e1'
      | some q =>
        rw [hq] at e1' e2'
        have ey : q.1 = y := Option.some.inj e1'
        have ev : (σ[q.2]?).join = some v := Option.some.inj e2'
        have hm : q ∈ fv := List.mem_of_getElem? hq
        obtain ⟨s1,s2,s3,s4',s5⟩ := C.slot q hm
        have ev2 : σ[q.2]? = some (some v) := by
          cases hz : σ[q.2]? with
          | none =>
            rw [hz] at ev
            cases ev
          | some z =>
            rw [hz] at ev
            have ev' : z = some v := ev
            rw [ev']
        obtain ⟨m,hn,hl⟩ := I.loc
        obtain ⟨u,r,lk⟩ := hl q.2 q.1 v s1 ev2 s3
        obtain ⟨c,hc⟩ := Option.isSome_iff_exists.mp s4'
        refine ⟨u,r,.inr ⟨.inl (by rw [← ey]; exact s5),c,by rw [← ey]; exact hc,?_⟩⟩
        rcases lk with ⟨k,_⟩ | ⟨_,c',hc',z⟩
        · rw [s2] at k
          cases k
        · rw [hcl _ _ hc] at hc'
          cases hc'
          obtain ⟨o,ho',hd⟩ := z
          exact ⟨o,kp _ _ ho',hd⟩
  · obtain ⟨v,o,ho',hd⟩ := I.cell y c (hcl y c h)
    exact ⟨v,o,kp _ _ ho',hd⟩
theorem blk_run {pins : List (Addr × Obj)} {σ : St} {H2 : Hp} {s2 : Shared} {it : Addr} {fp : List Addr} {tn : Nat → Heap → Prop} {J : It} {RR : Value → Addr → Result → Shared → Prop} {E : Value → Shared → Prop} {Qf : V → Hp → Prop}
    (hcalm : X.calm = true) (C : CompN X scope cl x fv) (I2 : Inv X pins σ H2 s2) (T : Turn X.prog X.w X.K (.Name x px) J fp it tn) (st : tn 0 s2.heap) (f2 : ∀ b ∈ fp,FpOk X pins H2 b)
    (rd : ∀ p,H2 p = none → ∃ W : Nat → Nat → List V → Hp → Prop,(∃ m,W 0 m [] (upd H2 p (.lst []))) ∧ ∀ i m acc H2,W i m acc H2 →
      H2 p = some (.lst acc) ∧ acc.length < sizeLine ∧ ((J.stop i H2 ∧ Qf (.ref p) H2) ∨ (J.go i H2 ∧ ∀ x H3,J.yld i H2 x H3 → te (some x :: fvs fv σ) H3 fun y H4 => H4 p = some (.lst acc) ∧ ∃ m',m' < m ∧ W (i + 1) m' (acc ++ [y]) (upd H4 p (.lst (acc ++ [y]))))))
    (he : ∀ (s₀ : Shared) (H₀ : Hp),PE (X.blk (x :: fv.map (·.1)) scope cl fp s₀ H₀) elt te)
    (hRR : ∀ (p C : Addr) (H' : Hp) (s' : Shared),(∃ m,s'.heap.Ns C m) → C ≠ X.env.locals → H' C = none → X.s₀.heap.objs.size ≤ C → (∀ y c,X.env.cells.lookup y = some c → c ≠ C) → (∀ q ∈ X.pn ++ pins,q.1 ≠ C) → Inv X pins σ H' s' → Qf (.ref p) H' → RR (.ref p) C (.ok .next) s') :
    wpAny (model X.prog X.w) X.A (newList []) (fun acc s₃ => wpAny (model X.prog X.w) X.A (newFunctionEnv scope X.env.globals cl [] X.env.qual none .none (some X.env)) (fun cenv s₄ =>
      codeAny (model X.prog X.w) X.A (.compStart (.ListComp elt [⟨.Name x px,iter,[],0⟩] scope pos) 0 (.ref it) acc { cenv with scope := relabel scope X.env }) (RR acc cenv.locals) s₄) E s₃) E s2 := by
  refine wpAny_newObj_type ?_
  have hfresh := I2.fresh
  have I3 : Inv X pins σ (upd H2 s2.heap.objs.size (.lst [])) { s2 with heap := s2.heap.push { cls := .type "list",data := .seq ([] : List Value).toArray } } :=
    I2.laid (t' := s2.toks) (fun b u q => Heap.get?_push_of_some _ q) (Nat.le_refl _) ⟨Nat.zero_le _,[],0,.nil,Heap.get?_push_size _ rfl⟩
  generalize hs3 : ({ s2 with heap := s2.heap.push { cls := .type "list",data := .seq ([] : List Value).toArray } } : Shared) = s3 at I3 ⊢
  have hp3 : s2.heap.objs.size < s3.heap.objs.size := by rw [← hs3]; exact Nat.lt_of_lt_of_le (Nat.lt_succ_self _) (Nat.le_of_eq (Heap.size_push _ _).symm)
  have k23 : ∀ b o,s2.heap.get? b = some o → s3.heap.get? b = some o := fun b o e => by rw [← hs3]; exact Heap.get?_push_of_some _ e
  have fpo : ∀ b ∈ fp,b < s2.heap.objs.size := fun b hb => by
    obtain ⟨o,e,_⟩ := T.obj 0 _ st b hb
    exact Heap.lt_size e
  have f3 : ∀ b ∈ fp,FpOk X pins (upd H2 s2.heap.objs.size (.lst [])) b := fun b hb => ⟨by rw [upd_ne (Nat.ne_of_lt (fpo b hb))]; exact (f2 b hb).1,(f2 b hb).2⟩
  refine wpAny_newFunctionEnv C.cell (by intro y hy; simp at hy) (fun h1 hns1 hsb1 => ?_) C.kind
  have kp : ∀ b o,s3.heap.get? b = some o → h1.get? b = some o := fun b o e => (hsb1.2 b (Nat.ne_of_lt (Heap.lt_size e))).trans (Heap.get?_push_of_some _ e)
  have I4 := blk_inv (s4 := { s3 with heap := h1,toks := s3.toks + ([] : List (Str × Value)).length }) C I3 f3 (fun b hb => Nat.lt_trans (fpo b hb) hp3) ⟨rfl,rfl⟩ hns1 kp
  have st4 : tn 0 h1 := T.keep 0 _ _ st fun b _ o e => kp b o (k23 b o e)
  obtain ⟨W,⟨m0,w0⟩,step⟩ := rd _ hfresh
  have loop : codeAny (model X.prog X.w) X.A (.compLoop (.ListComp elt [⟨.Name x px,iter,[],0⟩] scope pos) 0 (.ref it) (.ref s2.heap.objs.size) (compEnvC scope cl s3.heap.objs.size X.env)) (RR (.ref s2.heap.objs.size) s3.heap.objs.size)
      { s3 with heap := h1,toks := s3.toks + ([] : List (Str × Value)).length } := by
    refine codeAny_compLoop_list (fun n s => ∃ i acc σv H',Inv (X.blk (x :: fv.map (·.1)) scope cl fp s3 (upd H2 s2.heap.objs.size (.lst []))) [] (σv :: fvs fv σ) H' s ∧ tn i s.heap ∧ (∀ b ∈ fp,H' b = none) ∧ W i n acc H') ?_ m0 ⟨0,[],none,_,I4,st4,fun b hb => (f3 b hb).1,w0⟩
    rintro n s ⟨i,acc,σv,H',I',st',fr',w'⟩
    obtain ⟨hp,hlen,alt⟩ := step i n acc H' w'
    have fpk : ∀ {H5 : Hp},(∀ b ∈ fp,H5 b = none) → ∀ b ∈ fp,FpOk (X.blk (x :: fv.map (·.1)) scope cl fp s3 (upd H2 s2.heap.objs.size (.lst []))) [] H5 b := fun h5 b hb =>
      ⟨h5 b hb,(I'.ok.exf b hb).1,I'.ok.exfs b hb,.inl hb,fun y c e => (I'.ok.exf b hb).2 y c e,fun q hq => by simp at hq⟩
    rcases alt with ⟨stop,qf⟩ | ⟨go,turn⟩
    · refine wpAny_mono (T.done (X.blk (x :: fv.map (·.1)) scope cl fp s3 (upd H2 s2.heap.objs.size (.lst []))) rfl rfl rfl hcalm i [] s _ H' (fun _ _ => False) I' (fpk fr') st' stop) (fun r s5 ⟨hr,I5⟩ => ?_) fun _ _ z => False.elim z
      subst hr
      refine hRR _ _ H' s5 (let ⟨m,hn,_⟩ := I5.loc; ⟨m,hn⟩) (Nat.ne_of_gt I3.lt) I5.free I3.sz (fun y c e => ?_) (fun q hq => ?_) ?_ qf
      · obtain ⟨v,z⟩ := I3.cell y c e
        exact Nat.ne_of_lt z.lt
      · exact Nat.ne_of_lt (Heap.lt_size (I3.pin q hq).1)
      · exact I3.call' (s' := s5) (ch := fp) I5.os I5.base I5.hok I5.bare fun b hb => ⟨(f2 b hb).2.2.2.1,(f2 b hb).2.1,(f2 b hb).2.2.2.2.1,(f2 b hb).2.2.2.2.2⟩
    · refine wpAny_mono (T.item (X.blk (x :: fv.map (·.1)) scope cl fp s3 (upd H2 s2.heap.objs.size (.lst []))) rfl rfl rfl hcalm i [] s _ H' (fun _ _ => False) I' (fpk fr') st' go) (fun r s5 ⟨u,hr,h5⟩ => ?_) fun _ _ z => False.elim z
      subst hr
      have e5 : assign (.Name x px) (compEnvC scope cl s3.heap.objs.size X.env) u = (letOwnedTupleGo (.Name x px) (.ref it) u >>= fun _ => assign (.Name x px) (compEnvC scope cl s3.heap.objs.size X.env) u) := by
        rw [show letOwnedTupleGo (.Name x px) (.ref it) u = pure () from rfl]
        rfl
      show wpAny _ _ (assign (.Name x px) (compEnvC scope cl s3.heap.objs.size X.env) u) _ _ _
      rw [e5]
      refine wpAny_bind (wpAny_mono h5 (fun _ s6 ⟨y,H6,I6,r6,y6,st6,fr6⟩ => ?_) fun _ _ z => False.elim z)
      have I6' := I6.pinned (fpk fr6) (T.obj _ _ st6)
      have lx : (relabel scope X.env).names.lookup x = some .local := lookup_relabel_local C.own
      refine wpAny_mono (pg_name (X := X.blk (x :: fv.map (·.1)) scope cl fp s3 (upd H2 s2.heap.objs.size (.lst []))) (i := 0) C.nd rfl (.inl lx) (.inr lx) _ s6 _ H6 y u (fun σ7 H7 => σ7 = some y :: fvs fv σ ∧ H7 = H6) I6' r6 ⟨rfl,rfl⟩) (fun _ s7 ⟨σ7,H7,I7,e7,e7'⟩ => ?_) fun _ _ z => False.elim z
      subst e7 e7'
      refine wpAny_mono (he s3 _ _ s7 _ _ _ I7 (turn y _ y6)) (fun v8 s8 ⟨y8,H8,I8,r8,q8,m',hm',w8⟩ => ?_) fun _ _ z => False.elim z
      refine wpAny_mono (mt_append (X := X.blk (x :: fv.map (·.1)) scope cl fp s3 (upd H2 s2.heap.objs.size (.lst []))) _ s8 _ H8 (.ref s2.heap.objs.size) [y8] (.ref s2.heap.objs.size) [v8] (fun _ H9 => H9 = upd H8 s2.heap.objs.size (.lst (acc ++ [y8]))) I8 rfl (.cons r8 .nil) ⟨_,acc,y8,rfl,rfl,q8,hlen,rfl⟩) (fun _ s9 ⟨_,H9,I9,_,e9⟩ => ?_) fun _ _ z => False.elim z
      subst e9
      refine ⟨m',hm',i + 1,acc ++ [y8],some y,_,I9.unpinned,T.keep _ _ _ st6 fun b hb o e => (I9.pin (b,o) (List.mem_append_right _ (List.mem_append_right _ (mem_pinsAt hb e)))).1,fun b hb => ?_,w8⟩
      obtain ⟨o,e,d⟩ := T.obj _ _ st6 b hb
      exact (I9.pin (b,o) (List.mem_append_right _ (List.mem_append_right _ (mem_pinsAt hb e)))).2.1
  exact codeAny_compStart_list loop (T.self _ 0 _ _ _ st4 loop)
theorem pe_comp {wi : TI} (hcalm : X.calm = true) (C : CompN X scope cl x fv) (hi : PI X (.Name x px) iter wi) (he : ∀ (fp : List Addr) (s₀ : Shared) (H₀ : Hp),PE (X.blk (x :: fv.map (·.1)) scope cl fp s₀ H₀) elt te)
    (hs : ∀ v,foldedSetIterable iter X.env v = pure v := by intro _; rfl) : PE X (.ListComp elt [⟨.Name x px,iter,[],0⟩] scope pos) (tComp wi fv te) := by
  intro pins s σ H Q I h
  rw [eval_ListComp]
  refine wpAny_comprehension_free (use := none) rfl hs C.clos C.kind C.names (wpAny_mono (hi pins s σ H _ I h) (fun v s1 h1 => wpAny_mono h1 (fun itv s2 h2 => ?_) fun _ _ z => z) fun _ _ z => z)
  obtain ⟨it,fp,tn,J,H2,rfl,I2,T,st2,f2,rd⟩ := h2
  refine blk_run (Qf := Q) hcalm C I2 T st2 f2 rd (he fp) fun p D H' s' ns nL nH n0 nC nP I8 q => ?_
  obtain ⟨m,hn⟩ := ns
  exact ⟨m,hn,fun h'' sb => ⟨.ref p,H',I8.turned (t' := s'.toks) (fun b o hb e => (sb.2 b hb).trans e) nH nL (.inr n0) nC nP,rfl,q⟩⟩
theorem ps_setComp {wi : TI} {y : Str} {j : Nat} {py spos : Pos} (hcalm : X.calm = true) (C : CompN X scope cl x fv) (hN : X.N.Nodup) (hj : X.N[j]? = some y) (hy : X.env.scope.names.lookup y = some .local) (hi : PI X (.Name x px) iter wi) (he : ∀ (fp : List Addr) (s₀ : Shared) (H₀ : Hp),PE (X.blk (x :: fv.map (·.1)) scope cl fp s₀ H₀) elt te)
    (hsw : swapsWith (.ListComp elt [⟨.Name x px,iter,[],0⟩] scope pos) (some (.Name y py)) spos.line X.env = pure true := by rfl)
    (hs : ∀ v,foldedSetIterable iter X.env v = pure v := by intro _; rfl) : PS X (.Assign [.Name y py] (.ListComp elt [⟨.Name x px,iter,[],0⟩] scope pos) spos) (tAsg (tComp wi fv te) (gName j)) := by
  intro pins s σ H D I h
  rw [exec_Assign_Name_used _ _ _ _ hsw]
  refine wpAny_bind (wpAny_standAt (wpAny_bind ?_))
  show wpAny _ _ (do let _ ← comprehension (.ListComp elt [⟨.Name x px,iter,[],0⟩] scope pos) scope X.env _ (newList []) false (eval iter X.env) (some (assign (.Name y py) X.env))) _ _ s
  refine wpAny_bind (wpAny_mono (wpAny_comprehension_free (use := some (assign (.Name y py) X.env)) (Q := fun _ s' => SP X pins D .next s') rfl hs C.clos C.kind C.names
    (wpAny_mono (hi pins s σ H _ I h) (fun v s1 h1 => wpAny_mono h1 (fun itv s2 h2 => ?_) fun _ _ z => z) fun _ _ z => z)) (fun _ s' hq => wpAny_pure (wpAny_pure hq)) fun _ _ z => z)
  obtain ⟨it,fp,tn,J,H2,rfl,I2,T,st2,f2,rd⟩ := h2
  refine blk_run (Qf := fun v H' => gName j v σ H' D.nx) hcalm C I2 T st2 f2 rd (he fp) fun p D' H' s' ns nL nH n0 nC nP I8 q => ?_
  obtain ⟨m,hn⟩ := ns
  show wpAny _ _ (assign (.Name y py) X.env (.ref p)) _ _ _
  refine wpAny_assign_Name (store_ok2 I8 hN hj (.inl hy) (v := .ref p) rfl (fun s9 I9 ⟨a,sb,ha⟩ => ?_) (.inr hy))
  have aD : D' ≠ a := by
    rintro rfl
    rcases ha with z | z
    · exact nL z
    · exact nC y _ z rfl
  exact ⟨m,hn.sameBut sb aD,fun h'' sb2 => ⟨_,H',I9.turned (t' := s9.toks) (fun b o hb e => (sb2.2 b hb).trans e) nH nL (.inr n0) nC nP,q⟩⟩
end
end L2
namespace L2
open PySem PySem.Spec PyProof.Rows
def setScope (s : Stmt) : Scope := match s with
  | .Assign _ (.ListComp _ _ sc _) _ => sc
  | _ => { kind := .function,names := [],isGenerator := false,isCoroutine := false }
end L2
namespace L2
open PySem PySem.Spec PyProof.Rows
theorem ix_tupK {X : Cx} {K : PySem.W.Frag} (h : X.K = K) : IxR X (rIxT K) := h ▸ ix_tup
end L2
namespace L2
open PySem PySem.Spec PyProof.Rows
theorem comp_list {K : PySem.W.Frag} {a : Addr} {xs : List V} {fv : List (Str × Nat)} {te : TE} {σ : St} {H1 : Hp} {Qp : Hp → Prop} {l : Addr} (Pv : Nat → List V → Hp → Prop) (h0 : Pv 0 [] (upd H1 l (.lst []))) (hp : ∀ i acc H2,i ≤ xs.length → Pv i acc H2 → SqL K H2 a xs ∧ H2 l = some (.lst acc) ∧ acc.length < sizeLine)
    (hs : ∀ i x acc H2 (Kc : VK),xs[i]? = some x → Pv i acc H2 → (∀ y H4,H4 l = some (.lst acc) → Pv (i + 1) (acc ++ [y]) (upd H4 l (.lst (acc ++ [y]))) → Kc y H4) → te (some x :: fvs fv σ) H2 Kc) (hd : ∀ acc H2,Pv xs.length acc H2 → Qp H2) :
    ∃ W : Nat → Nat → List V → Hp → Prop,(∃ m,W 0 m [] (upd H1 l (.lst []))) ∧ ∀ i m acc H2,W i m acc H2 →
      H2 l = some (.lst acc) ∧ acc.length < sizeLine ∧ (((Itl K a).stop i H2 ∧ Qp H2) ∨ ((Itl K a).go i H2 ∧ ∀ x H3,(Itl K a).yld i H2 x H3 → te (some x :: fvs fv σ) H3 fun y H4 => H4 l = some (.lst acc) ∧ ∃ m',m' < m ∧ W (i + 1) m' (acc ++ [y]) (upd H4 l (.lst (acc ++ [y]))))) := by
  refine ⟨fun i m acc H2 => m = xs.length - i ∧ i ≤ xs.length ∧ Pv i acc H2,⟨xs.length,by simp,Nat.zero_le _,h0⟩,?_⟩
  rintro i m acc H2 ⟨rfl,hi,p⟩
  obtain ⟨q1,q2,q3⟩ := hp i acc H2 hi p
  refine ⟨q2,q3,?_⟩
  by_cases hlt : i < xs.length
  · refine .inr ⟨⟨xs,xs[i],q1,List.getElem?_eq_getElem hlt⟩,fun x H3 y => ?_⟩
    obtain ⟨e1,e2⟩ := y
    subst e1
    exact hs i x acc _ _ (e2 xs q1) p fun y H4 z1 z2 => ⟨z1,xs.length - (i + 1),by omega,rfl,hlt,z2⟩
  · have e : i = xs.length := by omega
    subst e
    exact .inl ⟨⟨xs,q1,Nat.le_refl _⟩,hd acc H2 p⟩
end L2
namespace L2
open PySem PySem.Spec PyProof.Rows
theorem val_get {xs : List V} {us : List Value} {j : Nat} (r : Vals xs us) (h : j < us.length) : ∃ a,xs[j]? = some a ∧ RelV a us[j] := by
  have hl := r.length
  have hj : j < xs.length := by omega
  obtain ⟨u,e,q⟩ := r.get (i := j) (x := xs[j]) (List.getElem?_eq_getElem hj)
  rw [List.getElem?_eq_getElem h] at e
  cases e
  exact ⟨xs[j],List.getElem?_eq_getElem hj,q⟩
section
variable {X : Cx} {pins : List (Addr × Obj)} {σ : St} {H : Hp} {s : Shared}
end
end L2
namespace L2
open PySem
theorem Room.units10 {k : Nat} {A : Around} (r : Room k A) : A.units + 10 < cLine := by have := r.un; omega
end L2
namespace L2
open PySem PySem.Spec PyProof.Rows
end L2
namespace Sp3
open PySem PySem.Spec L2 Mth Sp1 Sp2
end Sp3
namespace Sp3
open PySem PySem.Spec L2 Mth Sp1 Sp2
theorem Thing.mono {H H' : Hp} {x : V} (h : Thing H x) (s : Same H H') : Thing H' x := by
  obtain ⟨⟨t,k⟩,pt⟩ := h
  refine ⟨⟨t,k.mono s⟩,fun p xs e1 e2 y hy => ?_⟩
  subst e1
  have e3 : H p = some (.tup xs) := by
    cases k with
    | lst e => rw [s _ _ e] at e2; cases e2
    | tup e => rw [s _ _ e] at e2; cases e2; exact e
    | dict e => rw [s _ _ e] at e2; cases e2
  obtain ⟨t',k'⟩ := pt p xs rfl e3 y hy
  exact ⟨t',k'.mono s⟩
abbrev Crn := List (Addr × Int × Int)
end Sp3
namespace PySem
open Sem (wp)
abbrev Lk {α : Type} (M : Model) (h : Heap) (t : Sem α) (r : α) : Prop := ∀ (A : Around) (Q : α → Shared → Prop) (E : Value → Shared → Prop) (g : Array GenState) (d : Drawn) (tk : Nat) (os : OsState),Q r ⟨h,g,d,tk,os⟩ → wpAny M A t Q E ⟨h,g,d,tk,os⟩
section
variable {prog : Program} {w : World} {A : Around} {E : Value → Shared → Prop} {h : Heap} {g : Array GenState} {d : Drawn} {t : Nat} {os : OsState} {a : Addr} {o : Obj}
  {nm q : Str} {C N : Addr} {bs bm : List Value} {hdct : Bool} {sn : List Str} {sub : List Value} {ab : Bool} {col : Option Bool} {dd : Option Addr} {k0 k1 k2 k3 k5 : Option Value} {newId : String}
theorem class_get_exc {R : Result → Shared → Prop} (atC : h.get? C = some (excClassObj nm q C N bs bm hdct sn sub ab col dd k0 k1 k2 k3 k5 newId)) (hO : bm.contains (.type "object") = true)
    (atE : h.get? a = some o) (clE : o.cls = .ref C) (fin : R (.ok (.ret (.ref C))) ⟨h,g,d,t,os⟩) :
    codeAny (model prog w) A (.call (.builtin "getset_descriptor.__get__") ⟨[.builtin "object.__class__",.ref a,.ref C],[]⟩) R ⟨h,g,d,t,os⟩ := by
  have tg : (⟨h,g,d,t,os⟩ : Shared).TypeIs (.builtin "object.__class__") "getset_descriptor" := F.typeOf_object_class
  have e0 : (".".intercalate ("object.__class__".cutAt '.').dropLast) = "object" := by
    have e0 : "object.__class__".cutAt '.' = ["object","__class__"] := by first | rfl | decide +kernel
    rw [e0]; decide +kernel
  have cont : (Value.ref C :: bm).contains (.type (".".intercalate ("object.__class__".cutAt '.').dropLast)) = true := by
    rw [e0,List.contains_cons,hO,Bool.or_true]
  refine codeAny_call_builtin F.slot_gs_get.plain F.entry_gs_get (F.slot_gs_get.check _ _ _ _ _ _ _ _ tg (F.args_gs_get _ _ _) ?_)
  repeat (any_goals (first | assumption | (with_reducible refine wpAny_loadPart_at atE ?_; rw [clE]) | (with_reducible refine wpAny_isSubtype_exc atC ?_; rw [cont]) | wp_step))
  refine ⟨Code.quiet_builtin _ (by decide +kernel),codeAny_builtin F.entry_object_class ?_⟩
  repeat (any_goals (first | assumption | (with_reducible refine wpAny_loadPart_at atE ?_; rw [clE]) | wp_step))
theorem check_ga_exc {M : Model} {nameV : Value} {Q : Unit → Shared → Prop} (atC : h.get? C = some (excClassObj nm q C N bs bm hdct sn sub ab col dd k0 k1 k2 k3 k5 newId)) (hB : bm.contains (.type "BaseException") = true)
    (atE : h.get? a = some o) (clE : o.cls = .ref C) (fin : Q () ⟨h,g,d,t,os⟩) : wpAny M A (checkBuiltinCall "BaseException.__getattribute__" ⟨[.ref a,nameV],[]⟩) Q E ⟨h,g,d,t,os⟩ := by
  have kd : builtinKind "BaseException.__getattribute__" = some .slot := by decide +kernel
  have spl : splitId "BaseException.__getattribute__" = some ("BaseException","__getattribute__") := by decide +kernel
  have cont : (Value.ref C :: bm).contains (.type "BaseException") = true := by rw [List.contains_cons,hB,Bool.or_true]
  have okA := F.args_bexc_ga (.ref a) nameV
  simp only [checkBuiltinCall,kd,spl]
  refine wpAny_bind ?_
  · unfold isInstance
    repeat (first | (with_reducible refine wpAny_loadPart_at atE ?_; rw [clE]) | (with_reducible refine wpAny_isSubtype_exc atC ?_; rw [cont]) | wp_step)
    exact fin
theorem class_entry_exc {tk : Tok} {Q : Fin → Shared → Prop} (atC : h.get? C = some (excClassObj nm q C N bs bm hdct sn sub ab col dd k0 k1 k2 k3 k5 newId)) (hO : bm.contains (.type "object") = true)
    (lc : Lk (model prog w) h (typeLookup (.ref C) "__class__") (some (.builtin "object.__class__"))) (atE : h.get? a = some o) (clE : o.cls = .ref C) (fin : Q (.done (.ret (.ref C))) ⟨h,g,d,t,os⟩) :
    wpAny (model prog w) A (Builtin.«object.__getattribute__» ⟨[.ref a,.str "__class__" tk],[]⟩) Q E ⟨h,g,d,t,os⟩ := by
  have tg : (⟨h,g,d,t,os⟩ : Shared).TypeIs (.builtin "object.__class__") "getset_descriptor" := F.typeOf_object_class
  have tyC := F.typeOf_object_class
  have getL := F.slot_gs_get.lookup
  have setL := F.slot_gs_set.lookup
  repeat (any_goals (first | assumption | (with_reducible refine wpAny_loadPart_at atE ?_; rw [clE]) | with_reducible refine lc _ _ _ _ _ _ _ ?_ | wp_step))
  refine class_get_exc atC hO atE clE ?_
  repeat (any_goals (first | assumption | wp_step))
theorem class_by_exc {tk : Tok} {Q : Value → Shared → Prop} (atC : h.get? C = some (excClassObj nm q C N bs bm hdct sn sub ab col dd k0 k1 k2 k3 k5 newId)) (hO : bm.contains (.type "object") = true) (hB : bm.contains (.type "BaseException") = true)
    (lc : Lk (model prog w) h (typeLookup (.ref C) "__class__") (some (.builtin "object.__class__"))) (lg : Lk (model prog w) h (typeLookup (.ref C) "__getattribute__") (some (.builtin "BaseException.__getattribute__"))) (ln : Lk (model prog w) h (typeLookup (.ref C) "__getattr__") none)
    (atE : h.get? a = some o) (clE : o.cls = .ref C) (fin : Q (.ref C) ⟨h,g,d,t,os⟩) :
    wpAny (model prog w) A (getAttrBy (.ref a) (.str "__class__" tk) false) Q E ⟨h,g,d,t,os⟩ := by
  have bnd := F.excAttr_ValueError.ga.bind (.ref a)
  have nh2 : (Value.builtin "BaseException.__getattribute__" == Value.builtin "object.__getattribute__") = false := by decide +kernel
  have nh1 : (onTheHeap (Value.ref C) && Value.builtin "BaseException.__getattribute__" == Value.builtin "object.__getattribute__") = false := by rw [nh2]; rfl
  repeat (any_goals (first | assumption | (with_reducible refine wpAny_loadPart_at atE ?_; rw [clE]) | with_reducible refine lg _ _ _ _ _ _ _ ?_ | with_reducible refine ln _ _ _ _ _ _ _ ?_ | wp_step))
  refine codeAny_call_builtin F.excAttr_ValueError.ga.plain F.entry_bexc_ga (check_ga_exc atC hB atE clE (class_entry_exc atC hO lc atE clE ?_))
  repeat (any_goals (first | assumption | wp_step))
theorem class_attr_exc {Q : Option Value → Shared → Prop} (atC : h.get? C = some (excClassObj nm q C N bs bm hdct sn sub ab col dd k0 k1 k2 k3 k5 newId)) (hO : bm.contains (.type "object") = true) (hB : bm.contains (.type "BaseException") = true)
    (lc : Lk (model prog w) h (typeLookup (.ref C) "__class__") (some (.builtin "object.__class__"))) (lg : Lk (model prog w) h (typeLookup (.ref C) "__getattribute__") (some (.builtin "BaseException.__getattribute__"))) (ln : Lk (model prog w) h (typeLookup (.ref C) "__getattr__") none)
    (atE : h.get? a = some o) (clE : o.cls = .ref C) (fin : Q (some (.ref C)) ⟨h,g,d,t + 1,os⟩) :
    wpAny (model prog w) A (getAttr? (.ref a) "__class__") Q E ⟨h,g,d,t,os⟩ := by
  unfold getAttr?
  repeat (any_goals (first | assumption | with_reducible refine class_by_exc atC hO hB lc lg ln atE clE ?_ | wp_step))
end
end PySem
namespace L2
open PySem PySem.Spec PyProof.Rows
def excO (C a : Addr) : HO := .ext fun h => ∃ o,h.get? a = some o ∧ o.cls = .ref C
theorem excO_ok {P : Program} {w : World} {H : Hp} {h : Heap} {a C : Addr} (e : ∃ o,h.get? a = some o ∧ o.cls = .ref C) : ObjOk P w H h a (excO C a) :=
  ⟨e,let ⟨o,e1,_⟩ := e; ⟨o,e1⟩,fun _ _ ⟨o,e1,e2⟩ k => ⟨o,k o e1,e2⟩⟩
structure ExcF (K : PySem.W.Frag) (C : Addr) : Prop where
  ga : PySem.W.findIn K (.ref C) "__getattribute__" = some (some (.builtin "BaseException.__getattribute__"))
  gn : PySem.W.findIn K (.ref C) "__getattr__" = some none
  cl : PySem.W.findIn K (.ref C) "__class__" = some (some (.builtin "object.__class__"))
theorem lk_of {K : PySem.W.Frag} {M : Model} {h : Heap} {C : Addr} {n : Str} {r : Option Value} (X : K.In h) (e : PySem.W.findIn K (.ref C) n = some r) : Lk M h (typeLookup (.ref C) n) r :=
  fun _ _ _ _ _ _ _ q => (PySem.W.looks_findIn X e).here q
theorem kitx_exc {K : PySem.W.Frag} {mg : Str → Option Value} {n : Str} {C a : Addr} (O : ExcC K mg n C) (f : ExcF K C) : PySem.W.KitX K (.ref a) (.ref C) (fun h => ∃ o,h.get? a = some o ∧ o.cls = .ref C) where
  ty := fun M h _ p => by
    obtain ⟨o,e1,e2⟩ := p
    exact e2 ▸ (PySem.W.Looks.ld e1).andThen .now
  it := fun M h X _ => by
    obtain ⟨bm,N',nm,qn,bs,hd,sn,sub,ab,col,dd,k0,k1,k2,k3,k5,mN,atC,_⟩ := O.obj h X
    intro A' Q' E' s' k q
    unfold isType loadHead
    exact wpAny_bind (wpAny_loadPart (k _ _ atC) (wpAny_pure q))
  ne := fun h tp dd' its n' sl X htp => by
    obtain ⟨bm,N',nm,qn,bs,hd,sn,sub,ab,col,dd,k0,k1,k2,k3,k5,mN,atC,_⟩ := O.obj h X
    refine Bool.eq_false_iff.mpr fun q => ?_
    cases Value.ref.inj (beq_iff_eq.mp q)
    rw [atC] at htp
    have z := congrArg Obj.cls (Option.some.inj htp)
    exact absurd (Value.type.inj z) (by decide)
  ca := fun {prog w A E Q s} X p k => by
    obtain ⟨h,g,d,t,os⟩ := s
    obtain ⟨o,e1,e2⟩ := p
    obtain ⟨bm,N',nm,qn,bs,hd,sn,sub,ab,col,dd,k0,k1,k2,k3,k5,mN,atC,_,_,T⟩ := O.obj h X
    exact class_attr_exc atC (T.hasType (by decide +kernel)) (T.hasType (by decide +kernel)) (lk_of X f.cl) (lk_of X f.ga) (lk_of X f.gn) e1 e2 k
section
variable {X : Cx}
def rIsE (K : PySem.W.Frag) (C : Addr) : List V → Hp → VK → Prop := fun xs H Q => ∃ (a : Addr) (v : V) (b : Bool),xs = [.ref a,v] ∧ H a = some (excO C a) ∧
  ((∃ D,v = .ref D ∧ PySem.W.kitOne K (.ref C) (.ref D) = some b) ∨ (∃ T,v = .ty T ∧ PySem.W.kitOne K (.ref C) (.type T) = some b) ∨ (∃ (p : Addr) (ds : List Addr),v = .ref p ∧ H p = some (.tup (ds.map V.ref)) ∧ PySem.W.kitAny K (.ref C) (ds.map Value.ref) = some b)) ∧ Q (.bl b) H
theorem vals_refs : ∀ {ds : List Addr} {us : List Value},Vals (ds.map V.ref) us → us = ds.map Value.ref
  | [],us,r => by cases r; rfl
  | d :: ds,us,r => by
    cases r with
    | cons h t =>
      rw [vals_refs t]
      cases h
      rfl
theorem call_isexc {n : Str} {C : Addr} (O : ExcC X.K X.mg n C) (f : ExcF X.K C) : CallR X (.builtin "isinstance") (rIsE X.K C) := by
  intro pins s σ H xs us Q I rs h
  obtain ⟨a,v,b,rfl,ea,hv,q⟩ := h
  obtain ⟨u,u',rfl,ru,rv⟩ := vals2 rs
  cases ru
  have p : ∃ o,s.heap.get? a = some o ∧ o.cls = .ref C := (show ObjOk X.prog X.w H s.heap a (excO C a) from I.hok a _ ea).1
  rcases hv with ⟨D,rfl,e⟩ | ⟨T,rfl,e⟩ | ⟨p',ds,rfl,et,e⟩
  · cases rv
    exact PySem.W.kia_one (kitx_exc O f) I.kIn p e (by intro z; cases z) fun tk => ⟨.bl _,H,I.tok _,rfl,q⟩
  · cases (show u' = Value.type T from rv)
    exact PySem.W.kia_one (kitx_exc O f) I.kIn p e (by intro z; cases z) fun tk => ⟨.bl _,H,I.tok _,rfl,q⟩
  · cases rv
    obtain ⟨_,its,rv',⟨oc,odi,oda,osl⟩,eo,ec,nn,ed⟩ := I.hok _ _ et
    dsimp only at ec ed
    subst ec ed
    cases vals_refs rv'
    exact PySem.W.kia_tup (kitx_exc O f) I.kIn p eo e (by intro z; cases z) fun tk => ⟨.bl _,H,I.tok _,rfl,q⟩
end
section
variable {X : Cx} {pins : List (Addr × Obj)} {σ : St} {H : Hp} {s : Shared}
theorem Inv.track {a : Addr} {o : HO} (I : Inv X pins σ H s) (hn : H a = none) (h0 : X.s₀.heap.get? a = none) (hl : a ≠ X.env.locals) (hc : ∀ x c,X.env.cells.lookup x = some c → c ≠ a) (hp : ∀ p ∈ X.pn ++ pins,p.1 ≠ a)
    (ho : ObjOk X.prog X.w (upd H a o) s.heap a o) : Inv X pins σ (upd H a o) s where
  ok := I.ok
  os := I.os
  bare := I.bare
  base := {
    keep := I.base.keep
    slot := I.base.slot
    free := fun b ob e n hx => by
      rw [upd_ne (fun z => by subst z; rw [h0] at e; cases e)]
      exact I.base.free b ob e n hx
    there := I.base.there
    tups := fun b xs q => by
      have z := I.base.tups b xs q
      rw [upd_ne (ne_of_none z hn)]
      exact z
    frzs := fun b ob u q => by
      have z := I.base.frzs b ob u q
      rw [upd_ne (ne_of_none z hn)]
      exact z
    tbls := fun b ps q => by
      obtain ⟨m,z⟩ := I.base.tbls b ps q
      exact ⟨m,by rw [upd_ne (ne_of_none z hn)]; exact z⟩ }
  loc := I.loc
  cell := I.cell
  free := by rw [upd_ne (Ne.symm hl)]; exact I.free
  freeC := fun x c e => by rw [upd_ne (hc x c e)]; exact I.freeC x c e
  pin := fun p m => by
    obtain ⟨p1,p2,p3⟩ := I.pin p m
    exact ⟨p1,by rw [upd_ne (hp p m)]; exact p2,p3⟩
  hok := fun b u q => by
    by_cases hb : b = a
    · subst hb
      rw [upd_same] at q
      cases q
      exact ho
    · rw [upd_ne hb] at q
      exact (I.hok b u q).stay (fun _ _ _ r => r) (fun c r => by rw [upd_ne (ne_of_none r hn)]; exact r) fun c xs r => by rw [upd_ne (ne_of_none r hn)]; exact r
  len := I.len
theorem goes_ok {M : Model} {A : Around} {E : Value → Shared → Prop} {i : Nat} {x : Str} {pos : Pos} {Q : Unit → Shared → Prop} (I : Inv X pins σ H s) (hN : X.N.Nodup) (hi : X.N[i]? = some x) (hk : X.env.kindOf x = some .local)
    (h : ∀ s',Inv X pins (σ.set i none) H s' → Q () s') : wpAny M A (do bindName X.env x .none; unbindBehindTheSuite X.env x pos) Q E s := by
  obtain ⟨m,hn,hl⟩ := id I.loc
  have plain : (X.env.scope.kind == .class || (X.env.scope.kind == .module && X.env.locals != X.env.globals)) = false := by rw [I.ok.kind]; rfl
  have iσ : i < σ.length := by rw [I.len]; exact (List.getElem?_eq_some_iff.mp hi).1
  have cne := I.cne
  refine wpAny_nameGoes_keeps hk hn plain (fun h' v hn' sb => ?_)
  have far : ∀ {b : Addr} {o : Obj},X.s₀.heap.get? b = some o → b ≠ X.env.locals := fun e => Nat.ne_of_lt (Nat.lt_of_lt_of_le (Heap.lt_size e) I.ok.above)
  refine h _ ⟨I.ok,I.os,I.bare,⟨fun b o e n hb hx => (sb.2 b (far e)).trans (I.base.keep b o e n hb hx),fun b o e n hb hx => ?_,I.base.free,fun b o e hx => ?_,I.base.tups,I.base.frzs,I.base.tbls⟩,⟨_,hn',fun j y v' e1 e2 e3 => ?_⟩,fun y c e => ?_,I.free,I.freeC,fun p hp => ?_,fun b ob e => ?_,by simpa using I.len⟩
  · obtain ⟨sl,z⟩ := I.base.slot b o e n hb hx
    exact ⟨sl,(sb.2 b (far e)).trans z⟩
  · obtain ⟨o',z⟩ := I.base.there b o e hx
    exact ⟨o',(sb.2 b (far e)).trans z⟩
  · by_cases hj : j = i
    · subst hj
      rw [List.getElem?_set_self iσ] at e2
      cases e2
    · rw [List.getElem?_set_ne (Ne.symm hj)] at e2
      obtain ⟨u',r',q⟩ := hl j y v' e1 e2 e3
      refine ⟨u',r',?_⟩
      rcases q with ⟨k,e⟩ | ⟨k,c,e,z⟩
      · have ny : y ≠ x := fun e => hj (nodup_ix hN e1 (e ▸ hi))
        exact .inl ⟨k,by simp [ny,e]⟩
      · exact .inr ⟨k,c,e,z.sameBut sb (cne y c e)⟩
  · obtain ⟨w',z⟩ := I.cell y c e
    exact ⟨w',z.sameBut sb (cne y c e)⟩
  · obtain ⟨e,n,ne,nf,d⟩ := I.pin p hp
    exact ⟨(sb.2 p.1 ne).trans e,n,ne,nf,d⟩
  · refine (I.hok b ob e).stay (fun c w' hc q => (sb.2 c ?_).trans q) (fun _ q => q) fun _ _ q => q
    rintro rfl
    rcases hc with rfl | hc
    · rw [I.free] at e
      cases e
    · rw [I.free] at hc
      cases hc
end
def Ends.drop (D : Ends) (i : Nat) : Ends := { nx := fun σ H => D.nx (σ.set i none) H,rt := D.rt,bk := fun σ H => D.bk (σ.set i none) H,ct := fun σ H => D.ct (σ.set i none) H }
section
variable {X : Cx}
theorem caught_as {pins : List (Addr × Obj)} {σ : St} {H : Hp} {s s' : Shared} {E1 : XK} {ev : Value} {x en : Str} {B C : Addr} {np pos : Pos} {b₀ : Stmt} {suite : List Stmt} {rest : List ExceptHandler} {D : Ends} {th : TS} {Ex : Value → Shared → Prop} {i : Nat}
    (I : Inv X pins σ H s) (stk : X.stack = X.env :: X.outer) (hf : X.env.frame = some X.env.locals) (O : ExcC X.K X.mg x B) (hg : Gl X x) (hm : PySem.W.exmOne X.K (.ref C) (.ref B) = some true) (hex : X.ex = []) (hN : X.N.Nodup) (hi : X.N[i]? = some en) (hk : X.env.kindOf en = some .local) (h : CXE X.prog X.w X.stack H s E1 ev s')
    (hE : ∀ c o H',E1 c o H' → c = .ref C ∧ ∀ e : Addr,H' e = none → th (D.drop i) (σ.set i (some (.ref e))) (upd H' e (excO C e))) (hb : ∀ e : Addr,PSs (X.inH e) (b₀ :: suite) th) (hdb : (x == ("__debug__" : Str)) = false := by decide) :
    wpAny (model X.prog X.w) X.A (noteFrame ev X.env) (fun _ s₂ => wpAny (model X.prog X.w) X.A (setFlight ev none) (fun _ s₃ =>
      wpAny (model X.prog X.w) X.A (handleBy ev X.env (.ExceptHandler (some (.Name x np)) (some en) (b₀ :: suite) pos :: rest)) (SP X pins D) Ex s₃) Ex s₂) Ex s' := by
  obtain ⟨ea,t,cls,H',B',rfl,os,bare,un,hok,fl,big,q⟩ := h
  obtain ⟨rfl,rd⟩ := hE _ _ _ q
  have hfr := I.ok.frames
  rw [stk] at hfr
  have fr : ∀ b ∈ frs X.stack,H b = none ∧ ∀ o,s'.heap.get? b = some o → ∀ vs,o.data ≠ .fields vs := fun b hb => ⟨I.stkFree b hb,fun o eo => by
    obtain ⟨_,o',eo',nf⟩ := fl.2.2.1.mem hb
    rw [eo] at eo'
    cases eo'
    exact nf⟩
  have J : ∀ h2 : Heap,B'.StaysIn h2 → s'.heap.UpToSlots h2 → Inv X pins σ H' { s' with heap := h2 } := fun h2 st2 sl =>
    I.call' (s' := { s' with heap := h2 }) (ch := []) os (Un.fly un big fl.1 st2 sl fr) (HOk.fly hok big fl.1 st2) bare fun b z => absurd z (by simp)
  have hn : H' ea = none := by
    cases hz : H' ea with
    | none => rfl
    | some o =>
      obtain ⟨ob,e⟩ := big.tr ea o hz
      rw [fl.2.1] at e
      cases e
  have new : ∀ b o,s.heap.get? b = some o → b ≠ ea := fun b o e z => by
    subst z
    by_cases hb : b ∈ frs X.stack
    · obtain ⟨_,o',eo',nf⟩ := fl.2.2.1.mem hb
      obtain ⟨oe',vs,e1,_,e2,_⟩ := fl.first
      rw [eo'] at e1
      cases e1
      exact nf vs e2
    · obtain ⟨ob,e1⟩ := big.old b o e hb
      rw [fl.2.1] at e1
      cases e1
  have fl0 := fl
  rw [stk] at fl0
  refine wpAny_looks_onW (L := X.env.locals) hfr hf fl0 fun h4 hheld up4 => ?_
  refine wpAny_landsW hheld fun h5 fl5 up5 => ?_
  have up45 := up4.trans up5
  have I5 := (J h5 fl5.1 up45).inH ea
  obtain ⟨oe,he,hc⟩ := fl5.there
  refine wpAny_handleBy_cons (codeAny_handlers_test (ld_glob I5 hg O.bound ?_ hdb)) (by intro z; cases z)
  have LT : PySem.W.Looks (model X.prog X.w) h5 (typeOf (.ref ea)) (.ref C) := hc ▸ (PySem.W.Looks.ld he).andThen .now
  refine (PySem.W.exm_one I5.kIn LT hm).here (codeAny_handlers_suite_as ?_)
  refine lands_againW fl5 fun h6 fl6 up6 => ?_
  have I6 := (J h6 fl6.1 (up45.trans up6)).inH ea
  have I7 := I6.track (a := ea) (o := excO C ea) hn (by
    cases hz : X.s₀.heap.get? ea with
    | none => rfl
    | some o =>
      obtain ⟨o',e⟩ := I.base.there ea o hz (by rw [hex]; exact List.not_mem_nil)
      exact absurd rfl (new ea o' e)) (fun z => by
    obtain ⟨m,⟨o',_,_,e,_⟩,_⟩ := I.loc
    exact new _ o' e z.symm) (fun y c e z => by
    obtain ⟨v,o',e',_⟩ := I.cell y c e
    exact new _ o' e' z) (fun p hp z => new _ _ (I.pin p hp).1 z) (excO_ok fl6.there)
  refine store_ok (X := X.inH ea) I7 hN hi (.inl hk) (show RelV (.ref ea) (.ref ea) from rfl) (fun s8 I8 => ?_) (.inr hk)
  refine wpAny_mono (hb ea pins _ _ _ (D.drop i) I8 (rd ea hn)) (fun f s9 z => ?_) fun _ _ z => False.elim z
  cases f with
  | next =>
    obtain ⟨σ',H2,I9,q9⟩ := z
    exact goes_ok (I9.outH I.ok) hN hi hk fun s10 I10 => ⟨_,_,I10,q9⟩
  | brk =>
    obtain ⟨σ',H2,I9,q9⟩ := z
    exact goes_ok (I9.outH I.ok) hN hi hk fun s10 I10 => ⟨_,_,I10,q9⟩
  | cont =>
    obtain ⟨σ',H2,I9,q9⟩ := z
    exact goes_ok (I9.outH I.ok) hN hi hk fun s10 I10 => ⟨_,_,I10,q9⟩
  | ret u =>
    obtain ⟨v,σ',H2,I9,r,q9⟩ := z
    exact goes_ok (I9.outH I.ok) hN hi hk fun s10 I10 => ⟨v,_,_,I10,r,q9⟩
end
end L2
namespace Sp8
open PySem PySem.Spec L2 Mth Sp1 Sp2 Sp3
end Sp8
namespace L2
open PySem PySem.Spec PyProof.Rows
theorem px_if {X : Cx} {c : Expr} {a b : List Stmt} {tc : TT} {ta tb : TX} {pos : Pos} (hc : PT X.nox c tc) (ha : PXs X a ta) (hb : PXs X b tb) : PX X (.If c a b pos) (fun R D σ H => tc σ H fun d H1 => if d = true then ta R D σ H1 else tb R D σ H1) := by
  intro pins s σ H D R I h
  refine wpAny_If (wpAny_mono (hc pins s σ H _ (I.wish _) h) (fun d s1 ⟨H1,I1,q1⟩ => ?_) fun _ _ z => False.elim z)
  cases d with
  | true => exact ha pins s1 σ H1 D R I1.unwish q1
  | false => exact hb pins s1 σ H1 D R I1.unwish q1
theorem bt_ValueError : bootBuiltins "ValueError" = some (.type "ValueError") := by decide +kernel
theorem SqT.mod {K : PySem.W.Frag} {H : Hp} {a : Addr} {oc : Value} {od : Option Addr} {its : Array Value} {n : Nat} {sl : Array (Option Value)} {xs : List V} (hk : K.lookup a = some ⟨oc,od,.seq its n,sl⟩) (hc : oc = .type "tuple") (hz : its.size ≤ 100) (r : Vals xs its.toList) : SqT K H a xs :=
  .inr ⟨_,its,n,hk,hc,rfl,Nat.le_of_lt (small1000 (by omega)),r⟩
end L2
namespace Sp24
open PySem PySem.Spec L2 Mth Sp1 Sp2 Sp3 Sp8
end Sp24
namespace L2
open PySem PySem.Spec PyProof.Rows
theorem bt_all : bootBuiltins "all" = some (.builtin "all") := by decide +kernel
theorem bl_at {bs : List Bool} {us : List Value} {i : Nat} {v : Value} (r : Vals (bs.map V.bl) us) (h : us[i]? = some v) : ∃ b,bs[i]? = some b ∧ v = .bool b := by
  have hl := r.length
  rw [List.length_map] at hl
  have hi : i < us.length := (List.getElem?_eq_some_iff.mp h).1
  have hj : i < bs.length := by omega
  obtain ⟨u,e,q⟩ := r.get (i := i) (x := .bl bs[i]) (by rw [List.getElem?_map,List.getElem?_eq_getElem hj]; rfl)
  rw [h] at e
  cases e
  exact ⟨bs[i],List.getElem?_eq_getElem hj,q⟩
theorem all_range (bs : List Bool) : ((List.range bs.length).all fun i => (bs[i]?).getD true) = bs.all id := by
  rw [Bool.eq_iff_iff]
  simp only [List.all_eq_true,List.mem_range,id]
  constructor
  · intro h b hb
    obtain ⟨i,hi,rfl⟩ := List.mem_iff_getElem.mp hb
    have z := h i hi
    rw [List.getElem?_eq_getElem hi] at z
    exact z
  · intro h i hi
    rw [List.getElem?_eq_getElem hi]
    exact h _ (List.getElem_mem hi)
theorem call_all {X : Cx} (hc : X.calm = true) : CallR X (.builtin "all") (fun xs H Q => ∃ (p : Addr) (bs : List Bool),xs = [.ref p] ∧ SqL X.K H p (bs.map V.bl) ∧ Q (.bl (bs.all id)) H) := by
  intro pins s σ H xs us Q I r h
  obtain ⟨p,bs,rfl,hq,q⟩ := h
  obtain ⟨u,rfl,rx⟩ := vals1 r
  cases rx
  obtain ⟨its,rv,pl,_⟩ := I.list hq
  have hl := pl.isList
  have lt : p < s.heap.objs.size := by
    obtain ⟨_,e,_⟩ := hl
    exact Heap.lt_size e
  refine call_all_walk (wpAny_pyIter_list hl ?_)
  refine ⟨s.heap.objs.size,[s.heap.objs.size,p],[s.heap.objs.size],its.toArray.size,_,_,fun i => (bs[i]?).getD true,rfl,Walks.list (A := X.A.in1) (I.ok.hd hc) _ p (Nat.ne_of_lt lt) its.toArray,?_⟩
  refine ⟨⟨⟨_,Heap.get?_push_size _ rfl,rfl,rfl⟩,hl.push _⟩,fun i v s' Q' E' hP hQ => ?_,fun h' tk hk => ?_⟩
  · obtain ⟨b,e,rfl⟩ := bl_at rv (by simpa using hP)
    simp only [e,Option.getD_some] at hQ
    exact wpAny_truthy_bool hQ
  · have el : its.toArray.size = bs.length := by
      have := rv.length
      rw [List.length_map] at this
      rw [List.size_toArray]
      omega
    rw [el,all_range]
    refine ⟨.bl _,H,I.kept (t' := tk) fun b o e => ?_,rfl,q⟩
    exact hk b o (fun hm => by rw [List.mem_singleton.mp hm] at e; exact Nat.lt_irrefl _ (Heap.lt_size e)) (Heap.get?_push_of_some _ e)
end L2
namespace Sp7
open PySem PySem.Spec L2 Mth Sp1 Sp2 Sp3
def larg : Int := 999999999999
def Sm (x : Int) : Prop := -larg ≤ x ∧ x ≤ larg
structure LineM (H : Hp) (l : Addr) (qs : Crn) : Prop where
  lst : H l = some (.lst (qs.map fun q => V.ref q.1))
  crn : ∀ q ∈ qs,H q.1 = some (.tup [.int q.2.1,.int q.2.2]) ∧ Sm q.2.1 ∧ Sm q.2.2
theorem LineM.mono {H H' : Hp} {l : Addr} {qs : Crn} (L : LineM H l qs) (s : Same H H') : LineM H' l qs := ⟨s _ _ L.lst,fun q h => ⟨s _ _ (L.crn q h).1,(L.crn q h).2⟩⟩
end Sp7
namespace L2
open PySem PySem.Spec PyProof.Rows
theorem bits_add2 {i j : Int} {m n : Nat} (hi : bits i ≤ m) (hj : bits j ≤ n) : bits (i + j) ≤ max m n + 1 := bits_add (bits_le hi (Nat.le_max_left _ _)) (bits_le hj (Nat.le_max_right _ _))
theorem dec_t {p : Prop} [Decidable p] (h : decide p = true) : p := of_decide_eq_true h
theorem dec_f {p : Prop} [Decidable p] (h : decide p = false) : ¬ p := of_decide_eq_false h
theorem CM.of {i j : Int} {m n : Nat} (hi : bits i ≤ m) (hj : bits j ≤ n) (h : m ≤ 1000000 ∧ n ≤ 1000000) : CM i j := CM.b hi hj (by have : (2:Nat) ^ 20 = 1048576 := by decide
                                                                                                                                     omega) (by have : (2:Nat) ^ 20 = 1048576 := by decide
                                                                                                                                                omega)
theorem bits_of_le {i : Int} {m n : Nat} (h : bits i ≤ m) (hm : m ≤ n) : bits i ≤ n := Nat.le_trans h hm
end L2
namespace L2
open PySem PySem.Spec PyProof.Rows
def SameT (H H' : Hp) : Prop := ∀ b xs,H b = some (.tup xs) → H' b = some (.tup xs)
theorem Same.t {H H' : Hp} (s : Same H H') : SameT H H' := fun b xs e => s b _ e
theorem SameT.trans {H H1 H2 : Hp} (a : SameT H H1) (b : SameT H1 H2) : SameT H H2 := fun c xs e => b c xs (a c xs e)
theorem SameT.upd {H : Hp} {l : Addr} {xs ys : List V} (hl : H l = some (.lst xs)) : SameT H (upd H l (.lst ys)) := fun b zs e => by
  rw [upd_ne (ne_of e hl (by intro z; cases z))]
  exact e
theorem Same.upd {H0 H : Hp} {l : Addr} {o : HO} (s : Same H0 H) (hl : H0 l = none) : Same H0 (upd H l o) := fun b u e => by
  rw [upd_ne (ne_of_none e hl)]
  exact s b u e
def CompAt (J : It) (fv : List (Str × Nat)) (te : TE) (σ : St) (H1 : Hp) (Q : VK) : Prop := ∀ p,H1 p = none → ∃ W : Nat → Nat → List V → Hp → Prop,(∃ m,W 0 m [] (upd H1 p (.lst []))) ∧ ∀ i m acc H2,W i m acc H2 →
  H2 p = some (.lst acc) ∧ acc.length < sizeLine ∧ ((J.stop i H2 ∧ Q (.ref p) H2) ∨ (J.go i H2 ∧ ∀ x H3,J.yld i H2 x H3 → te (some x :: fvs fv σ) H3 fun y H4 => H4 p = some (.lst acc) ∧ ∃ m',m' < m ∧ W (i + 1) m' (acc ++ [y]) (upd H4 p (.lst (acc ++ [y])))))
def tCompA (wi : TI) (fv : List (Str × Nat)) (te : TE) : TE := fun σ H Q => wi σ H fun J H1 => CompAt J fv te σ H1 Q
section
variable {X : Cx} {scope : Scope} {cl : List (Str × Addr)} {x : Str} {fv : List (Str × Nat)} {elt iter : Expr} {px pos : Pos} {te : TE}
theorem pe_compA {wi : TI} (hcalm : X.calm = true) (C : CompN X scope cl x fv) (hi : PI X (.Name x px) iter wi) (he : ∀ (fp : List Addr) (s₀ : Shared) (H₀ : Hp),PE (X.blk (x :: fv.map (·.1)) scope cl fp s₀ H₀) elt te)
    (hs : ∀ v,foldedSetIterable iter X.env v = pure v := by intro _; rfl) : PE X (.ListComp elt [⟨.Name x px,iter,[],0⟩] scope pos) (tCompA wi fv te) := pe_comp hcalm C hi he hs
theorem ps_setCompA {wi : TI} {y : Str} {j : Nat} {py spos : Pos} (hcalm : X.calm = true) (C : CompN X scope cl x fv) (hN : X.N.Nodup) (hj : X.N[j]? = some y) (hy : X.env.scope.names.lookup y = some .local) (hi : PI X (.Name x px) iter wi) (he : ∀ (fp : List Addr) (s₀ : Shared) (H₀ : Hp),PE (X.blk (x :: fv.map (·.1)) scope cl fp s₀ H₀) elt te)
    (hsw : swapsWith (.ListComp elt [⟨.Name x px,iter,[],0⟩] scope pos) (some (.Name y py)) spos.line X.env = pure true := by rfl)
    (hs : ∀ v,foldedSetIterable iter X.env v = pure v := by intro _; rfl) : PS X (.Assign [.Name y py] (.ListComp elt [⟨.Name x px,iter,[],0⟩] scope pos) spos) (tAsg (tCompA wi fv te) (gName j)) := ps_setComp hcalm C hN hj hy hi he hsw hs
end
theorem comp_R {K : PySem.W.Frag} {a : Addr} {xs : List V} {fv : List (Str × Nat)} {te : TE} {σ : St} {H1 : Hp} {Q : VK} (hL : SqL K H1 a xs) (hlen : xs.length < 1000) (R : Nat → V → Hp → Prop) (hR : ∀ i v H H',SameT H H' → R i v H → R i v H')
    (hs : ∀ i x H2 (Kc : VK),xs[i]? = some x → Same H1 H2 → (∀ y H4,Same H2 H4 → R i y H4 → Kc y H4) → te (some x :: fvs fv σ) H2 Kc)
    (hd : ∀ l ys H',H1 l = none → Same H1 H' → H' l = some (.lst ys) → ys.length = xs.length → (∀ i y,ys[i]? = some y → R i y H') → Q (.ref l) H') :
    CompAt (Itl K a) fv te σ H1 Q := by
  intro l hl
  refine comp_list (K := K) (a := a) (xs := xs) (l := l) (fv := fv) (Qp := fun H2 => Q (.ref l) H2) (fun i acc H2 => acc.length = i ∧ Same H1 H2 ∧ H2 l = some (.lst acc) ∧ ∀ j y,acc[j]? = some y → R j y H2)
    ⟨rfl,Same.new hl,upd_same,fun j y h => by simp at h⟩ ?_ ?_ ?_
  · rintro i acc H2 hi ⟨e1,sm,e3,_⟩
    exact ⟨sm.seq hL,e3,small1000 (by omega)⟩
  · rintro i x acc H2 Kc hx ⟨e1,sm,e3,hr⟩ kk
    refine hs i x H2 Kc hx sm fun y H4 s4 ry => kk y H4 (s4 _ _ e3) ⟨by simp [e1],(sm.trans s4).upd hl,upd_same,fun j z hz => ?_⟩
    have t4 := SameT.upd (ys := acc ++ [y]) (s4 _ _ e3)
    rcases Nat.lt_trichotomy j acc.length with h | h | h
    · rw [List.getElem?_append_left h] at hz
      exact hR _ _ _ _ (s4.t.trans t4) (hr j z hz)
    · subst h
      rw [List.getElem?_append_right (Nat.le_refl _),Nat.sub_self] at hz
      cases hz
      rw [e1]
      exact hR _ _ _ _ t4 ry
    · rw [List.getElem?_eq_none (by simp; omega)] at hz
      cases hz
  · rintro acc H2 ⟨e1,sm,e3,hr⟩
    exact hd l acc H2 hl sm e3 e1 hr
theorem nice_tuple : Nice "tuple" := .inr (.inr (.inl rfl))
theorem nice_list : Nice "list" := .inr (.inr (.inr (.inl rfl)))
theorem nice_str : Nice "str" := .inr (.inr (.inr (.inr rfl)))
end L2
namespace L2
open PySem PySem.Spec PyProof.Rows
section
variable {X : Cx} {pos : Pos} {es : List Expr} {ta : TA}
def tTupA (t : TA) : TE := fun σ H Q => t σ H fun xs H1 => xs.length ≤ sizeLine ∧ ∀ p H2,Same H1 H2 → H2 p = some (.tup xs) → H1 p = none → Q (.ref p) H2
def tLstA (t : TA) : TE := fun σ H Q => t σ H fun xs H1 => xs.length ≤ sizeLine ∧ ∀ p H2,Same H1 H2 → H2 p = some (.lst xs) → H1 p = none → Q (.ref p) H2
theorem pe_tupA {x1} (h : PA X es ta) : PE X (.Tuple es x1 pos) (tTupA ta) := by
  intro pins s σ H Q I hq
  refine wpAny_Tuple_spliced (thn (h pos pins s σ H _ I hq) fun us s1 ⟨xs,H1,I1,r,z,q⟩ => ⟨by rw [← r.length]; exact z,?_⟩)
  have hf : H1 s1.heap.objs.size = none := I1.hok.fresh (Nat.le_refl _)
  refine ⟨.ref s1.heap.objs.size,upd H1 s1.heap.objs.size (.tup xs),I1.laid (t' := s1.toks) (fun b u e => Heap.get?_push_of_some _ e) (Nat.le_refl _) ?_,rfl,q _ _ (Same.new hf) upd_same hf⟩
  exact ⟨z,us,r,⟨_,Heap.get?_push_size _ rfl,rfl,_,rfl⟩⟩
theorem pe_lstA (h : PA X es ta) : PE X (.List es pos) (tLstA ta) := by
  intro pins s σ H Q I hq
  refine wpAny_List_spliced (thn (h pos pins s σ H _ I hq) fun us s1 ⟨xs,H1,I1,r,z,q⟩ => ⟨by rw [← r.length]; exact z,?_⟩)
  have hf : H1 s1.heap.objs.size = none := I1.hok.fresh (Nat.le_refl _)
  refine ⟨.ref s1.heap.objs.size,upd H1 s1.heap.objs.size (.lst xs),I1.laid (t' := s1.toks) (fun b u e => Heap.get?_push_of_some _ e) (Nat.le_refl _) ?_,rfl,q _ _ (Same.new hf) upd_same hf⟩
  exact ⟨z,us,0,r,Heap.get?_push_size _ rfl⟩
def rSlLA (K : PySem.W.Frag) : V → Option Int → Option Int → Hp → VK → Prop := fun x lo hi H Q => ∃ a xs,x = .ref a ∧ SqL K H a xs ∧ ∀ p H2,Same H H2 → H2 p = some (.lst (cutV xs lo hi)) → H p = none → Q (.ref p) H2
theorem sl_listA : SlR X (rSlLA X.K) := fun pins s σ H x v vl vu lo hi sl Q I rx hs pl pu ⟨a,xs,e,hx,q⟩ =>
  sl_list pins s σ H x v vl vu lo hi sl Q I rx hs pl pu ⟨a,xs,e,hx,fun p hp => q p _ (Same.new hp) upd_same hp⟩
def rCatA : R2 := fun x y H Q => ∃ l b xs zs,x = .ref l ∧ y = .ref b ∧ H l = some (.lst xs) ∧ H b = some (.lst zs) ∧ xs.length + zs.length ≤ sizeLine ∧ ∀ p H2,Same H H2 → H2 p = some (.lst (xs ++ zs)) → H p = none → Q (.ref p) H2
theorem op_catA : OpR X (binaryOp .Add) rCatA := fun pins s σ H x y v u Q I rx ry ⟨l,b,xs,zs,e1,e2,h1,h2,hz,q⟩ =>
  op_cat pins s σ H x y v u Q I rx ry ⟨l,b,xs,zs,e1,e2,h1,h2,hz,fun p hp => q p _ (Same.new hp) upd_same hp⟩
def rRepA : R2 := fun x y H Q => ∃ l k xs,x = .ref l ∧ y = .int k ∧ H l = some (.lst xs) ∧ -(2 ^ 63) ≤ k ∧ k < 2 ^ 63 ∧ xs.length * k.toNat ≤ sizeLine ∧ ∀ p H2,Same H H2 → H2 p = some (.lst (List.replicate k.toNat xs).flatten) → H p = none → Q (.ref p) H2
theorem op_repA : OpR X (binaryOp .Mult) rRepA := fun pins s σ H x y v u Q I rx ry ⟨l,k,xs,e1,e2,h1,h2,h3,hz,q⟩ =>
  op_rep pins s σ H x y v u Q I rx ry ⟨l,k,xs,e1,e2,h1,h2,h3,hz,fun p hp => q p _ (Same.new hp) upd_same hp⟩
theorem call_list_ofA : CallR X (.type "list") (fun xs H Q => ∃ p ys,xs = [.ref p] ∧ (SqL X.K H p ys ∨ SqT X.K H p ys) ∧ ∀ l H2,Same H H2 → H2 l = some (.lst ys) → H l = none → Q (.ref l) H2) := fun pins s σ H xs us Q I r ⟨p,ys,e,hq,q⟩ =>
  call_list_of pins s σ H xs us Q I r ⟨p,ys,e,hq,fun l hl => q l _ (Same.new hl) upd_same hl⟩
structure Upd (H H' : Hp) (l : Addr) (xs ys : List V) : Prop where
  was : H l = some (.lst xs)
  now : H' l = some (.lst ys)
  oth : ∀ b,b ≠ l → H' b = H b
theorem Upd.mk' {H : Hp} {l : Addr} {xs ys : List V} (h : H l = some (.lst xs)) : Upd H (L2.upd H l (.lst ys)) l xs ys := ⟨h,upd_same,fun _ n => upd_ne n⟩
theorem Upd.t {H H' : Hp} {l : Addr} {xs ys : List V} (u : Upd H H' l xs ys) : SameT H H' := fun b zs e => by
  rw [u.oth b (ne_of e u.was (by intro z; cases z))]
  exact e
theorem Upd.same {H0 H H' : Hp} {l : Addr} {xs ys : List V} (u : Upd H H' l xs ys) (s : Same H0 H) (h : H0 l = none) : Same H0 H' := fun b o e => by
  rw [u.oth b (ne_of_none e h)]
  exact s b o e
theorem Upd.at {H H' : Hp} {l b : Addr} {xs ys : List V} {o : HO} (u : Upd H H' l xs ys) (n : b ≠ l) (e : H b = some o) : H' b = some o := by
  rw [u.oth b n]
  exact e
def rAppendA : V → List V → Hp → VK → Prop := fun x vs H Q => ∃ l xs y,x = .ref l ∧ vs = [y] ∧ H l = some (.lst xs) ∧ xs.length < sizeLine ∧ ∀ H',Upd H H' l xs (xs ++ [y]) → Q .non H'
theorem mt_appendA : MtM X "list.append" rAppendA := fun pins s σ H x xs v us Q I rx rs ⟨l,ys,y,e1,e2,h,hz,q⟩ =>
  mt_append pins s σ H x xs v us Q I rx rs ⟨l,ys,y,e1,e2,h,hz,q _ (.mk' h)⟩
def rSetLA : V → V → V → Hp → (Hp → Prop) → Prop := fun o i v H Q => ∃ p xs k j,o = .ref p ∧ i = .int k ∧ H p = some (.lst xs) ∧ ixN xs.length k = some j ∧ ∀ H',Upd H H' p xs (xs.set j v) → Q H'
theorem set_listA : PSet X rSetLA := fun pins s σ H o i v uo ui uv Q I ro ri rv ⟨p,xs,k,j,e1,e2,h,hj,q⟩ =>
  set_list pins s σ H o i v uo ui uv Q I ro ri rv ⟨p,xs,k,j,e1,e2,h,hj,q _ (.mk' h)⟩
end
end L2
namespace L2
open PySem PySem.Spec PyProof.Rows
theorem menu {K : PySem.W.Frag} {H : Hp} {l : Addr} {xs : List V} {i : Int} {Q : VK} (e : H l = some (.lst xs)) (h0 : 0 ≤ i) (h1 : i < (xs.length : Int)) (h : ∀ v ∈ xs,Q v H) : rIxL K (.ref l) (.int i) H Q := by
  obtain ⟨v,hv,mv⟩ := Sp1.atI_mem h0 h1
  exact ⟨l,xs,i,v,rfl,rfl,SqL.of e,hv,h v mv⟩
theorem len3 {α : Type} {xs : List α} (h : xs.length = 3) : ∃ a b c,xs = [a,b,c] := match xs,h with | [a,b,c],_ => ⟨a,b,c,rfl⟩
theorem len2 {α : Type} {xs : List α} (h : xs.length = 2) : ∃ a b,xs = [a,b] := match xs,h with | [a,b],_ => ⟨a,b,rfl⟩
theorem len4 {α : Type} {xs : List α} (h : xs.length = 4) : ∃ a b c d,xs = [a,b,c,d] := match xs,h with | [a,b,c,d],_ => ⟨a,b,c,d,rfl⟩
theorem len5 {α : Type} {xs : List α} (h : xs.length = 5) : ∃ a b c d e,xs = [a,b,c,d,e] := match xs,h with | [a,b,c,d,e],_ => ⟨a,b,c,d,e,rfl⟩
theorem len6 {α : Type} {xs : List α} (h : xs.length = 6) : ∃ a b c d e f,xs = [a,b,c,d,e,f] := match xs,h with | [a,b,c,d,e,f],_ => ⟨a,b,c,d,e,f,rfl⟩
end L2
namespace L2
open PySem PySem.Spec PyProof.Rows
section
variable {X : Cx} {pins : List (Addr × Obj)} {σ : St} {H : Hp} {s : Shared}
theorem Inv.turnedL {h' : Heap} {t' : Nat} {ch : List Addr} (I : Inv X pins σ H s) (k : ∀ b o,b ∉ ch → s.heap.get? b = some o → h'.get? b = some o) (hf : ∀ b ∈ ch,FpOk X pins H b) : Inv X pins σ H { s with heap := h',toks := t' } := by
  have nit : ∀ b u,H b = some u → b ∉ ch := fun b u e z => by
    have n := (hf b z).1
    rw [n] at e
    cases e
  refine I.step (g' := s.gens) (d' := s.drawn) (ch := ch) (fun b hb => ?_) (fun b o _ _ hc e _ => k b o hc e) (fun b o _ _ hc e _ => ⟨o.slots,k b o hc e⟩) (fun _ _ _ _ n => n)
    (fun b o hc e => ⟨o,k b o hc e⟩) (fun _ _ e => e) (fun _ _ _ e => e) (fun b ps e => ⟨#[],by rw [e]; simp⟩) (fun m hm => ?_) (fun b u e => ?_) I.bare
  · obtain ⟨f0,f1,f2,f3,f4,f5⟩ := hf b hb
    exact ⟨f3,f1,f4,f5⟩
  · obtain ⟨o,es,ep,ho,r⟩ := hm
    exact ⟨o,es,ep,k _ o (fun z => (hf _ z).2.1 rfl) ho,r⟩
  · refine (I.hok b u e).stay (fun c v hc q => k c v ?_ q) (fun _ q => q) fun _ _ q => q
    rcases hc with z | z
    · rw [z]; exact nit b u e
    · exact nit c _ z
theorem turn_item {E : Value → Shared → Prop} {elts : List Expr} {kt : Nat} {pos : Pos} {i n : Nat} {z : Addr} {fpw wr : List Addr} {Pt : Nat → Array Value → Prop} {Stt : Nat → Heap → Prop} {Mid : Nat → Addr → Heap → Prop} {R : Value → Shared → Prop}
    (W : WalksT X.prog X.w X.A z fpw wr n Pt Stt Mid) (I : Inv X pins σ H s) (hwr : ∀ b ∈ wr,FpOk X pins H b) (hi : i < n) (st : Stt i s.heap)
    (k : ∀ T vals s2,Pt i vals → s.heap.objs.size ≤ T → s2.heap.IsTuple T vals → Stt (i + 1) s2.heap → Inv X pins σ H s2 → (∀ b o,b ∉ wr → s.heap.get? b = some o → s2.heap.get? b = some o) → R (.ref T) s2) :
    wpAny (model X.prog X.w) X.A (pyNext (.ref z)) (fun r s1 => ∃ u,r = some u ∧ wpAny (model X.prog X.w) X.A (letOwnedTupleGo (.Tuple elts kt pos) (.ref z) u) (fun _ s2 => R u s2) E s1) E s := by
  refine W.item i s _ E hi st fun T vals h' tk hp hT tup mid kk => ⟨.ref T,rfl,?_⟩
  refine W.go elts kt pos i T _ _ E mid fun h2 st2 k2 => ?_
  have kall : ∀ b o,b ∉ wr → s.heap.get? b = some o → h2.get? b = some o := fun b o hb e => k2 b o hb (kk b o hb e)
  obtain ⟨o,eo,ro⟩ := tup
  exact k T vals _ hp hT ⟨o,k2 T o (W.apart i T _ mid) eo,ro⟩ st2 (I.turnedL (t' := tk) kall hwr) kall
theorem track_tup {T : Addr} {s2 : Shared} {xs : List V} {us : List Value} (I : Inv X pins σ H s) (J : Inv X pins σ H s2) (hT : s.heap.objs.size ≤ T) (ht : s2.heap.IsTuple T us.toArray) (r : Vals xs us) (hz : xs.length ≤ sizeLine) : Inv X pins σ (upd H T (.tup xs)) s2 ∧ H T = none := by
  have hn : H T = none := I.hok.fresh hT
  obtain ⟨f0,f1,f2,f3,f4,f5⟩ := I.fpOk hT hn
  refine ⟨J.track hn ?_ f1 f4 f5 ⟨hz,us,r,ht⟩,hn⟩
  cases e : X.s₀.heap.get? T with
  | none => rfl
  | some o =>
    have h1 := Heap.lt_size e
    have h2 := I.sz
    exact absurd (Nat.lt_of_lt_of_le h1 (Nat.le_trans h2 hT)) (Nat.lt_irrefl _)
end
def Ite (K : PySem.W.Frag) (l : Addr) : It :=
  ⟨fun i H => ∃ xs x,SqL K H l xs ∧ xs[i]? = some x,
   fun i H v H' => ∃ p x,v = .ref p ∧ H p = none ∧ H' = upd H p (.tup [.int (i : Int),x]) ∧ ∀ xs,SqL K H l xs → xs[i]? = some x,
   fun i H => ∃ xs,SqL K H l xs ∧ i = xs.length⟩
theorem turn_enum {P : Program} {w : World} {K : PySem.W.Frag} {elts : List Expr} {kt : Nat} {pos : Pos} (e it l : Addr) (hei : e ≠ it) (hle : l ≠ e) (hli : l ≠ it) :
    Turn P w K (.Tuple elts kt pos) (Ite K l) [e,it] e (fun i h => (∃ old,IsEnum h e it i old) ∧ h.IsListIter it l i) where
  mem := by simp
  obj := fun i h st b hb => by
    obtain ⟨⟨old,he⟩,⟨o1,e1,c1,d1⟩⟩ := st
    simp only [List.mem_cons,List.not_mem_nil,or_false] at hb
    rcases hb with rfl | rfl
    · exact ⟨_,he,fun v y => by cases y⟩
    · exact ⟨o1,e1,fun v y => by rw [d1] at y; cases y⟩
  keep := fun i h h' st k => by
    obtain ⟨⟨old,he⟩,h1⟩ := st
    exact ⟨⟨old,k e (by simp) _ he⟩,h1.at fun o x => k it (by simp) o x⟩
  item := by
    intro X hP hw hK hc i pins s σ H E I hf st hg
    subst hP hw hK
    obtain ⟨xs,x,q1,hx⟩ := hg
    obtain ⟨its,r1,p1,_⟩ := I.list q1
    obtain ⟨u1,hu1,ru1⟩ := r1.get hx
    have W := WalksT.enumerate (prog := X.prog) (w := X.w) (I.ok.hd hc) e it l hei hle hli its.toArray
    have hn : i < its.toArray.size := by
      have g1 := (List.getElem?_eq_some_iff.mp hu1).1
      simp only [List.size_toArray]
      omega
    obtain ⟨he,h1⟩ := st
    refine turn_item W I (fun b hb => hf b (by simpa using hb)) hn ⟨he,h1,p1.isList⟩ fun T vals s2 hp hT tup st2 J2 kall => ?_
    obtain ⟨tk,v1,e1,rfl⟩ := hp
    have e1' : its[i]? = some v1 := by simpa using e1
    rw [hu1] at e1'
    cases e1'
    obtain ⟨J3,nT⟩ := track_tup (xs := [.int (i : Int),x]) (us := [.int i tk,u1]) I J2 hT tup (.cons ⟨_,rfl⟩ (.cons ru1 .nil)) (Sp1.sz (by simp))
    obtain ⟨he2,h12,_⟩ := st2
    refine ⟨.ref T,upd H T (.tup [.int (i : Int),x]),J3,rfl,⟨T,x,rfl,nT,rfl,fun as qa => ?_⟩,⟨he2,h12⟩,fun b hb => ?_⟩
    · rw [I.list_inj qa q1]
      exact hx
    · have hb' : ∃ o,s.heap.get? b = some o := by
        obtain ⟨old,he⟩ := he
        obtain ⟨o1,e1,_⟩ := h1
        simp only [List.mem_cons,List.not_mem_nil,or_false] at hb
        rcases hb with rfl | rfl
        · exact ⟨_,he⟩
        · exact ⟨_,e1⟩
      obtain ⟨o,eo⟩ := hb'
      rw [upd_ne (Nat.ne_of_lt (Nat.lt_of_lt_of_le (Heap.lt_size eo) hT))]
      exact (hf b hb).1
  done := by
    intro X hP hw hK hc i pins s σ H E I hf st hg
    subst hP hw hK
    obtain ⟨xs,q1,rfl⟩ := hg
    obtain ⟨its,r1,p1,_⟩ := I.list q1
    have W := WalksT.enumerate (prog := X.prog) (w := X.w) (I.ok.hd hc) e it l hei hle hli its.toArray
    obtain ⟨he,h1⟩ := st
    refine W.done s _ E ?_ fun h' tk kk => ⟨rfl,I.turnedL (t' := tk) kk fun b hb => hf b (by simpa using hb)⟩
    rw [List.size_toArray,← r1.length]
    exact ⟨he,h1,p1.isList⟩
  self := fun _ _ _ _ _ st h => by
    obtain ⟨⟨old,he⟩,_⟩ := st
    exact wpAny_pyIter_enum he h
section
variable {X : Cx} {elts : List Expr} {kt : Nat} {tpos : Pos}
def iEnum (K : PySem.W.Frag) (ta : TA) : TI := fun σ H R => ta σ H fun vs H1 => ∃ a,vs = [.ref a] ∧ (∃ xs,SqL K H1 a xs) ∧ R (Ite K a) H1
theorem bt_enumerate : bootBuiltins "enumerate" = some (.type "enumerate") := by decide +kernel
theorem pi_enum {a : Expr} {ta : TA} {p pos : Pos} (hg : Gl X "enumerate") (hm : X.mg "enumerate" = none) (ha : PA X [a] ta) (hs : starEach [a] X.env = [(false,eval a X.env)] := by rfl) :
    PI X (.Tuple elts kt tpos) (.Call (.Name "enumerate" p) [a] [] pos) (iEnum X.K ta) := by
  intro pins s σ H R I h
  refine Call_ (ld_blt I hg hm bt_enumerate (PyProof.Rows.callWith_type1 (thn (ha pos pins s σ H _ I h) fun us s1 ⟨vs,H1,I1,r1,q1⟩ => ?_) hs rfl))
  obtain ⟨l,e,⟨xs,hx⟩,q⟩ := q1
  subst e
  cases r1 with
  | cons r rr =>
    cases rr
    cases r
    obtain ⟨its,_,p1,_⟩ := I1.list hx
    refine call_enumerate_list p1.isList fun h' he hi hsz hk => ?_
    refine wpAny_pyIter_enum he ?_
    have a1 : l < s1.heap.objs.size := by obtain ⟨_,e,_⟩ := p1.isList; exact Heap.lt_size e
    refine ⟨s1.heap.objs.size + 1,[s1.heap.objs.size + 1,s1.heap.objs.size],_,_,H1,rfl,I1.kept (t' := s1.toks) hk,turn_enum _ _ l (Nat.succ_ne_self _) (Nat.ne_of_lt (Nat.lt_succ_of_lt a1)) (Nat.ne_of_lt a1),⟨⟨_,he⟩,hi⟩,fun b hb => ?_,q⟩
    have hb' : s1.heap.objs.size ≤ b := by
      simp only [List.mem_cons,List.not_mem_nil,or_false] at hb
      rcases hb with rfl | rfl <;> omega
    exact I1.fpOk hb' (I1.hok.fresh hb')
end
theorem for_enum {K : PySem.W.Frag} {a : Addr} {xs : List V} {g : TG} {tb : TS} {D : Ends} {σ : St} {H : Hp} (Pv : Nat → St → Hp → Prop) (h0 : Pv 0 σ H) (hl : ∀ i σ H,i ≤ xs.length → Pv i σ H → SqL K H a xs)
    (hs : ∀ i x p σ H H1,xs[i]? = some x → Pv i σ H → Same H H1 → H1 p = some (.tup [.int (i : Int),x]) → g (.ref p) σ H1 fun σ2 H2 => tb { D with nx := Pv (i + 1),ct := Pv (i + 1),bk := D.nx } σ2 H2) (hd : ∀ σ H,Pv xs.length σ H → D.nx σ H) :
    ∃ W : Nat → Nat → St → Hp → Prop,(∃ m,W 0 m σ H) ∧ ∀ i m σ H,W i m σ H →
      ((Ite K a).stop i H ∧ D.nx σ H) ∨ ((Ite K a).go i H ∧ ∃ N : St → Hp → Prop,(∀ σ' H',N σ' H' → ∃ m',m' < m ∧ W (i + 1) m' σ' H') ∧ ∀ x H',(Ite K a).yld i H x H' → g x σ H' fun σ2 H2 => tb { D with nx := N,ct := N,bk := D.nx } σ2 H2) := by
  refine ⟨fun i m σ H => m = xs.length - i ∧ i ≤ xs.length ∧ Pv i σ H,⟨_,rfl,Nat.zero_le _,h0⟩,?_⟩
  rintro i m σ H ⟨rfl,hi,p⟩
  have q1 := hl i σ H hi p
  by_cases hlt : i < xs.length
  · refine .inr ⟨⟨xs,xs[i],q1,by simp [hlt]⟩,Pv (i + 1),fun σ' H' p' => ⟨_,by omega,rfl,hlt,p'⟩,fun v H' y => ?_⟩
    obtain ⟨t,x,rfl,nt,rfl,e⟩ := y
    exact hs i x t σ H _ (e xs q1) p (Same.new nt) upd_same
  · have e : i = xs.length := by omega
    subst e
    exact .inl ⟨⟨xs,q1,rfl⟩,hd σ H p⟩
end L2
namespace L2
open PySem PySem.Spec PyProof.Rows
inductive D where
  | non | bl (b : Bool) | int (i : Int) | str (x : Str) | tup (ds : List D) | lst (ds : List D)
inductive Rp (H : Hp) : Nat → V → D → Prop where
  | non {n : Nat} : Rp H n .non .non
  | bl {n : Nat} {b : Bool} : Rp H n (.bl b) (.bl b)
  | int {n : Nat} {i : Int} : Rp H n (.int i) (.int i)
  | str {n : Nat} {x : Str} : Rp H n (.str x) (.str x)
  | tup {n : Nat} {p : Addr} {xs : List V} {ds : List D} (e : H p = some (.tup xs)) (hl : xs.length = ds.length) (h : ∀ (j : Nat) x d,xs[j]? = some x → ds[j]? = some d → Rp H n x d) : Rp H (n + 1) (.ref p) (.tup ds)
  | lst {n : Nat} {p : Addr} {xs : List V} {ds : List D} (e : H p = some (.lst xs)) (hl : xs.length = ds.length) (h : ∀ (j : Nat) x d,xs[j]? = some x → ds[j]? = some d → Rp H n x d) : Rp H (n + 1) (.ref p) (.lst ds)
mutual
def deq : D → D → Bool
  | .non,.non => true
  | .bl a,.bl b => a == b
  | .bl a,.int b => (if a then 1 else 0) == b
  | .int a,.bl b => a == (if b then 1 else 0)
  | .int a,.int b => a == b
  | .str a,.str b => a == b
  | .tup xs,.tup ys => deqs xs ys
  | .lst xs,.lst ys => deqs xs ys
  | _,_ => false
def deqs : List D → List D → Bool
  | [],[] => true
  | x :: xs,y :: ys => deq x y && deqs xs ys
  | _,_ => false
end
theorem deqs_all : ∀ (ds es : List D),((List.range (min ds.length es.length)).all (fun j => deq (ds.getD j .non) (es.getD j .non)) && ds.length == es.length) = deqs ds es
  | [],[] => by simp [deqs]
  | [],e :: es => by simp [deqs]
  | d :: ds,[] => by simp [deqs]
  | d :: ds,e :: es => by
    have ih := deqs_all ds es
    have hm : min (d :: ds).length (e :: es).length = min ds.length es.length + 1 := by simp only [List.length_cons]; omega
    rw [hm,List.range_succ_eq_map,List.all_cons,List.all_map]
    simp only [deqs,List.getD_cons_zero,List.length_cons]
    rw [← ih,Bool.and_assoc]
    congr 1
    simp [Function.comp_def]
theorem deqs_len {ds es : List D} (h : ds.length ≠ es.length) : deqs ds es = false := by
  rw [← deqs_all]
  simp [h]
theorem deqs_all' {ds es : List D} (h : ds.length = es.length) : (List.range ds.length).all (fun j => deq (ds.getD j .non) (es.getD j .non)) = deqs ds es := by
  rw [← deqs_all,h]
  simp
theorem deqs_of {ds es : List D} (hl : ds.length = es.length) (h : ∀ (j : Nat) d e,ds[j]? = some d → es[j]? = some e → deq d e = true) : deqs ds es = true := by
  rw [← deqs_all' hl,List.all_eq_true]
  intro j hj
  have hj' : j < ds.length := List.mem_range.mp hj
  have hj2 : j < es.length := by omega
  have e1 : ds[j]? = some ds[j] := List.getElem?_eq_getElem hj'
  have e2 : es[j]? = some es[j] := List.getElem?_eq_getElem hj2
  rw [List.getD_eq_getElem?_getD,List.getD_eq_getElem?_getD,e1,e2]
  exact h j _ _ e1 e2
theorem get_of_len {α β : Type} {xs : List α} {ds : List β} {j : Nat} {d : β} (hl : xs.length = ds.length) (h : ds[j]? = some d) : ∃ x,xs[j]? = some x := by
  have := (List.getElem?_eq_some_iff.mp h).1
  exact ⟨xs[j],List.getElem?_eq_getElem (by omega)⟩
theorem Rp.self {H : Hp} {n m : Nat} {v : V} {d e : D} (r : Rp H n v d) (q : Rp H m v e) : deq d e = true := by
  induction r generalizing m e with
  | non => cases q; rfl
  | bl => cases q; simp [deq]
  | int => cases q; simp [deq]
  | str => cases q; simp [deq]
  | tup e1 hl h ih =>
    cases q with
    | tup e2 hl2 h2 =>
      rw [e1] at e2
      cases e2
      refine deqs_of (by omega) fun j a b ea eb => ?_
      obtain ⟨x,hx⟩ := get_of_len hl ea
      exact ih j x a hx ea (h2 j x b hx eb)
    | lst e2 hl2 h2 => rw [e1] at e2; cases e2
  | lst e1 hl h ih =>
    cases q with
    | tup e2 hl2 h2 => rw [e1] at e2; cases e2
    | lst e2 hl2 h2 =>
      rw [e1] at e2
      cases e2
      refine deqs_of (by omega) fun j a b ea eb => ?_
      obtain ⟨x,hx⟩ := get_of_len hl ea
      exact ih j x a hx ea (h2 j x b hx eb)
section
variable {X : Cx} {pins : List (Addr × Obj)} {σ : St} {H : Hp} {s : Shared}
theorem elts_at {A : Around} {xs ys : List V} {us ws : List Value} {ds es : List D} (r : Vals xs us) (r' : Vals ys ws) (hl : xs.length = ds.length) (hl' : ys.length = es.length)
    (h : ∀ (j : Nat) x y d e u w,xs[j]? = some x → ys[j]? = some y → ds[j]? = some d → es[j]? = some e → RelV x u → RelV y w → SeqAt.EqAt A s u w (deq d e))
    (j : Nat) (h1 : j < us.toArray.size) (h2 : j < ws.toArray.size) : SeqAt.EqAt A s us.toArray[j] ws.toArray[j] (deq (ds.getD j .non) (es.getD j .non)) := by
  rw [List.size_toArray] at h1 h2
  obtain ⟨a,ea,ra⟩ := val_get r h1
  obtain ⟨c,ec,rc⟩ := val_get r' h2
  have g1 := (List.getElem?_eq_some_iff.mp ea).1
  have g2 := (List.getElem?_eq_some_iff.mp ec).1
  have e1 : ds[j]? = some ds[j] := List.getElem?_eq_getElem (by omega)
  have e2 : es[j]? = some es[j] := List.getElem?_eq_getElem (by omega)
  rw [List.getD_eq_getElem?_getD,List.getD_eq_getElem?_getD,e1,e2]
  exact h j a c _ _ _ _ ea ec e1 e2 ra rc
theorem Rp.eqAt {n : Nat} {x : V} {d : D} (r : Rp H n x d) : ∀ {m : Nat} {y : V} {e : D} {A : Around} {u v : Value},Rp H m y e → Inv X pins σ H s → RelV x u → RelV y v → A.units + n < cLine → SeqAt.EqAt A s u v (deq d e) := by
  induction r with
  | non =>
    intro m y e A u v q I ru rv hu
    cases ru
    cases q with
    | non => cases rv; exact SeqAt.EqAt.same _
    | bl => cases rv; exact SeqAt.EqAt.none_bool _
    | int => obtain ⟨_,rfl⟩ := rv; exact SeqAt.EqAt.none_int _ _
    | str => obtain ⟨_,rfl⟩ := rv; exact SeqAt.EqAt.none_str _ _
    | tup e1 hl h => cases rv; obtain ⟨its,_,pl,_⟩ := I.tuple (SqT.of e1); exact SeqAt.EqAt.none_tuple pl (by omega)
    | lst e1 hl h => cases rv; obtain ⟨its,_,pl,_⟩ := I.list (SqL.of e1); exact SeqAt.EqAt.none_list pl.isList (by omega)
  | bl =>
    intro m y e A u v q I ru rv hu
    cases ru
    cases q with
    | non => cases rv; exact SeqAt.EqAt.bool_none _
    | bl => cases rv; exact SeqAt.EqAt.bool_bool _ _
    | int => obtain ⟨_,rfl⟩ := rv; exact SeqAt.EqAt.bool_int _ _ _
    | str => obtain ⟨_,rfl⟩ := rv; exact SeqAt.EqAt.bool_str _ _ _
    | tup e1 hl h => cases rv; obtain ⟨its,_,pl,_⟩ := I.tuple (SqT.of e1); exact SeqAt.EqAt.bool_tuple _ pl (by omega)
    | lst e1 hl h => cases rv; obtain ⟨its,_,pl,_⟩ := I.list (SqL.of e1); exact SeqAt.EqAt.bool_list _ pl.isList (by omega)
  | int =>
    intro m y e A u v q I ru rv hu
    obtain ⟨_,rfl⟩ := ru
    cases q with
    | non => cases rv; exact SeqAt.EqAt.int_none _ _
    | bl => cases rv; exact SeqAt.EqAt.int_bool _ _ _
    | int => obtain ⟨_,rfl⟩ := rv; exact SeqAt.EqAt.int_int _ _ _ _
    | str => obtain ⟨_,rfl⟩ := rv; exact SeqAt.EqAt.int_str _ _ _ _
    | tup e1 hl h => cases rv; obtain ⟨its,_,pl,_⟩ := I.tuple (SqT.of e1); exact SeqAt.EqAt.int_tuple _ _ pl (by omega)
    | lst e1 hl h => cases rv; obtain ⟨its,_,pl,_⟩ := I.list (SqL.of e1); exact SeqAt.EqAt.int_list _ _ pl.isList (by omega)
  | str =>
    intro m y e A u v q I ru rv hu
    obtain ⟨_,rfl⟩ := ru
    cases q with
    | non => cases rv; exact SeqAt.EqAt.str_none _ _
    | bl => cases rv; exact SeqAt.EqAt.str_bool _ _ _
    | int => obtain ⟨_,rfl⟩ := rv; exact SeqAt.EqAt.str_int _ _ _ _
    | str => obtain ⟨_,rfl⟩ := rv; exact SeqAt.EqAt.str_str _ _ _ _
    | tup e1 hl h => cases rv; obtain ⟨its,_,pl,_⟩ := I.tuple (SqT.of e1); exact SeqAt.EqAt.str_tuple _ _ pl (by omega)
    | lst e1 hl h => cases rv; obtain ⟨its,_,pl,_⟩ := I.list (SqL.of e1); exact SeqAt.EqAt.str_list _ _ pl.isList (by omega)
  | @tup n p xs ds e0 hl h ih =>
    intro m y e A u v q I ru rv hu
    cases ru
    obtain ⟨its,r1,pl,_⟩ := I.tuple (SqT.of e0)
    cases q with
    | non => cases rv; exact SeqAt.EqAt.tuple_none pl (by omega)
    | bl => cases rv; exact SeqAt.EqAt.tuple_bool _ pl (by omega)
    | int => obtain ⟨_,rfl⟩ := rv; exact SeqAt.EqAt.tuple_int _ _ pl (by omega)
    | str => obtain ⟨_,rfl⟩ := rv; exact SeqAt.EqAt.tuple_str _ _ pl (by omega)
    | lst e1 hl1 h1 => cases rv; obtain ⟨jts,_,pl',_⟩ := I.list (SqL.of e1); exact SeqAt.EqAt.tuple_list pl pl'.isList (by omega)
    | @tup m p' ys es e1 hl1 h1 =>
      cases rv
      by_cases hne : p = p'
      · subst hne
        have z : deq (.tup ds) (.tup es) = true := Rp.self (Rp.tup e0 hl h) (Rp.tup e1 hl1 h1)
        rw [z]
        exact SeqAt.EqAt.same _
      · obtain ⟨jts,r2,pl',_⟩ := I.tuple (SqT.of e1)
        have y := SeqAt.RcAt.tuples (A := A) (e := fun j => deq (ds.getD j .non) (es.getD j .non)) pl pl' (by omega) (elts_at r1 r2 hl hl1 fun j x y d e u w a b c k ra rb => ih j x d a c (h1 j y e b k) I ra rb (by show A.units + 1 + n < cLine; omega))
        rw [List.size_toArray,List.size_toArray,← r1.length,← r2.length,hl,hl1,deqs_all] at y
        exact SeqAt.EqAt.of_refs hne y
  | @lst n p xs ds e0 hl h ih =>
    intro m y e A u v q I ru rv hu
    cases ru
    obtain ⟨its,r1,pl,_⟩ := I.list (SqL.of e0)
    cases q with
    | non => cases rv; exact SeqAt.EqAt.list_none pl.isList (by omega)
    | bl => cases rv; exact SeqAt.EqAt.list_bool _ pl.isList (by omega)
    | int => obtain ⟨_,rfl⟩ := rv; exact SeqAt.EqAt.list_int _ _ pl.isList (by omega)
    | str => obtain ⟨_,rfl⟩ := rv; exact SeqAt.EqAt.list_str _ _ pl.isList (by omega)
    | tup e1 hl1 h1 => cases rv; obtain ⟨jts,_,pl',_⟩ := I.tuple (SqT.of e1); exact SeqAt.EqAt.list_tuple pl.isList pl' (by omega)
    | @lst m p' ys es e1 hl1 h1 =>
      cases rv
      by_cases hne : p = p'
      · subst hne
        have z : deq (.lst ds) (.lst es) = true := Rp.self (Rp.lst e0 hl h) (Rp.lst e1 hl1 h1)
        rw [z]
        exact SeqAt.EqAt.same _
      · obtain ⟨jts,r2,pl',_⟩ := I.list (SqL.of e1)
        have g1 := r1.length
        have g2 := r2.length
        by_cases hz : ds.length = es.length
        · have y := SeqAt.RcAt.lists (A := A) (e := fun j => deq (ds.getD j .non) (es.getD j .non)) pl.isList pl'.isList (by rw [List.size_toArray,List.size_toArray]; omega) (by omega) (elts_at r1 r2 hl hl1 fun j x y d e u w a b c k ra rb => ih j x d a c (h1 j y e b k) I ra rb (by show A.units + 1 + n < cLine; omega))
          rw [List.size_toArray,← r1.length,hl,deqs_all' hz] at y
          exact SeqAt.EqAt.of_refs hne y
        · rw [show deq (.lst ds) (.lst es) = false from deqs_len hz]
          exact SeqAt.EqAt.of_refs hne (SeqAt.RcAt.lists_lengths pl.isList pl'.isList (by rw [List.size_toArray,List.size_toArray]; simp; omega) (by omega))
end
end L2
namespace L2
open PySem PySem.Spec PyProof.Rows
section
variable {X : Cx} {pins : List (Addr × Obj)} {σ : St} {H : Hp} {s : Shared}
theorem Rp.rcAt {A : Around} {n m : Nat} {x y : V} {d e : D} {u v : Value} (r : Rp H n x d) (q : Rp H m y e) (I : Inv X pins σ H s) (ru : RelV x u) (rv : RelV y v) (hu : A.units + n + 1 < cLine) : SeqAt.RcAt A s u v (deq d e) := by
  cases r with
  | non =>
    cases q with
    | non =>
      cases ru
      cases rv
      exact SeqAt.RcAt.none_none
    | bl =>
      cases ru
      cases rv
      exact SeqAt.RcAt.none_bool _
    | int =>
      cases ru
      obtain ⟨_,rfl⟩ := rv
      exact SeqAt.RcAt.none_int _ _
    | str =>
      cases ru
      obtain ⟨_,rfl⟩ := rv
      exact SeqAt.RcAt.none_str _ _
    | @tup m p' ys es e1 hl1 h1 =>
      cases ru
      cases rv
      obtain ⟨jts,r2,pl',_⟩ := I.tuple (SqT.of e1)
      exact SeqAt.RcAt.none_tuple pl' (by omega)
    | @lst m p' ys es e1 hl1 h1 =>
      cases ru
      cases rv
      obtain ⟨jts,r2,pl',_⟩ := I.list (SqL.of e1)
      exact SeqAt.RcAt.none_list pl'.isList (by omega)
  | bl =>
    cases q with
    | non =>
      cases ru
      cases rv
      exact SeqAt.RcAt.bool_none _
    | bl =>
      cases ru
      cases rv
      exact SeqAt.RcAt.bool_bool _ _
    | int =>
      cases ru
      obtain ⟨_,rfl⟩ := rv
      exact SeqAt.RcAt.bool_int _ _ _
    | str =>
      cases ru
      obtain ⟨_,rfl⟩ := rv
      exact SeqAt.RcAt.bool_str _ _ _
    | @tup m p' ys es e1 hl1 h1 =>
      cases ru
      cases rv
      obtain ⟨jts,r2,pl',_⟩ := I.tuple (SqT.of e1)
      exact SeqAt.RcAt.bool_tuple _ pl' (by omega)
    | @lst m p' ys es e1 hl1 h1 =>
      cases ru
      cases rv
      obtain ⟨jts,r2,pl',_⟩ := I.list (SqL.of e1)
      exact SeqAt.RcAt.bool_list _ pl'.isList (by omega)
  | int =>
    cases q with
    | non =>
      obtain ⟨_,rfl⟩ := ru
      cases rv
      exact SeqAt.RcAt.int_none _ _
    | bl =>
      obtain ⟨_,rfl⟩ := ru
      cases rv
      exact SeqAt.RcAt.int_bool _ _ _
    | int =>
      obtain ⟨_,rfl⟩ := ru
      obtain ⟨_,rfl⟩ := rv
      exact SeqAt.RcAt.int_int _ _ _ _
    | str =>
      obtain ⟨_,rfl⟩ := ru
      obtain ⟨_,rfl⟩ := rv
      exact SeqAt.RcAt.int_str _ _ _ _
    | @tup m p' ys es e1 hl1 h1 =>
      obtain ⟨_,rfl⟩ := ru
      cases rv
      obtain ⟨jts,r2,pl',_⟩ := I.tuple (SqT.of e1)
      exact SeqAt.RcAt.int_tuple _ _ pl' (by omega)
    | @lst m p' ys es e1 hl1 h1 =>
      obtain ⟨_,rfl⟩ := ru
      cases rv
      obtain ⟨jts,r2,pl',_⟩ := I.list (SqL.of e1)
      exact SeqAt.RcAt.int_list _ _ pl'.isList (by omega)
  | str =>
    cases q with
    | non =>
      obtain ⟨_,rfl⟩ := ru
      cases rv
      exact SeqAt.RcAt.str_none _ _
    | bl =>
      obtain ⟨_,rfl⟩ := ru
      cases rv
      exact SeqAt.RcAt.str_bool _ _ _
    | int =>
      obtain ⟨_,rfl⟩ := ru
      obtain ⟨_,rfl⟩ := rv
      exact SeqAt.RcAt.str_int _ _ _ _
    | str =>
      obtain ⟨_,rfl⟩ := ru
      obtain ⟨_,rfl⟩ := rv
      exact SeqAt.RcAt.str_str _ _ _ _
    | @tup m p' ys es e1 hl1 h1 =>
      obtain ⟨_,rfl⟩ := ru
      cases rv
      obtain ⟨jts,r2,pl',_⟩ := I.tuple (SqT.of e1)
      exact SeqAt.RcAt.str_tuple _ _ pl' (by omega)
    | @lst m p' ys es e1 hl1 h1 =>
      obtain ⟨_,rfl⟩ := ru
      cases rv
      obtain ⟨jts,r2,pl',_⟩ := I.list (SqL.of e1)
      exact SeqAt.RcAt.str_list _ _ pl'.isList (by omega)
  | @tup n p xs ds e0 hl h =>
    cases q with
    | non =>
      cases ru
      cases rv
      obtain ⟨its,r1,pl,_⟩ := I.tuple (SqT.of e0)
      exact SeqAt.RcAt.tuple_none pl (by omega)
    | bl =>
      cases ru
      cases rv
      obtain ⟨its,r1,pl,_⟩ := I.tuple (SqT.of e0)
      exact SeqAt.RcAt.tuple_bool _ pl (by omega)
    | int =>
      cases ru
      obtain ⟨_,rfl⟩ := rv
      obtain ⟨its,r1,pl,_⟩ := I.tuple (SqT.of e0)
      exact SeqAt.RcAt.tuple_int _ _ pl (by omega)
    | str =>
      cases ru
      obtain ⟨_,rfl⟩ := rv
      obtain ⟨its,r1,pl,_⟩ := I.tuple (SqT.of e0)
      exact SeqAt.RcAt.tuple_str _ _ pl (by omega)
    | @tup m p' ys es e1 hl1 h1 =>
      cases ru
      cases rv
      obtain ⟨its,r1,pl,_⟩ := I.tuple (SqT.of e0)
      obtain ⟨jts,r2,pl',_⟩ := I.tuple (SqT.of e1)
      have y := SeqAt.RcAt.tuples (A := A) (e := fun j => deq (ds.getD j .non) (es.getD j .non)) pl pl' (by omega) (elts_at r1 r2 hl hl1 fun j x y d e u w a b c k ra rb => (h j x d a c).eqAt (h1 j y e b k) I ra rb (by show A.units + 1 + _ < cLine; omega))
      rw [List.size_toArray,List.size_toArray,← r1.length,← r2.length,hl,hl1,deqs_all] at y
      exact y
    | @lst m p' ys es e1 hl1 h1 =>
      cases ru
      cases rv
      obtain ⟨its,r1,pl,_⟩ := I.tuple (SqT.of e0)
      obtain ⟨jts,r2,pl',_⟩ := I.list (SqL.of e1)
      exact SeqAt.RcAt.tuple_list pl pl'.isList (by omega)
  | @lst n p xs ds e0 hl h =>
    cases q with
    | non =>
      cases ru
      cases rv
      obtain ⟨its,r1,pl,_⟩ := I.list (SqL.of e0)
      exact SeqAt.RcAt.list_none pl.isList (by omega)
    | bl =>
      cases ru
      cases rv
      obtain ⟨its,r1,pl,_⟩ := I.list (SqL.of e0)
      exact SeqAt.RcAt.list_bool _ pl.isList (by omega)
    | int =>
      cases ru
      obtain ⟨_,rfl⟩ := rv
      obtain ⟨its,r1,pl,_⟩ := I.list (SqL.of e0)
      exact SeqAt.RcAt.list_int _ _ pl.isList (by omega)
    | str =>
      cases ru
      obtain ⟨_,rfl⟩ := rv
      obtain ⟨its,r1,pl,_⟩ := I.list (SqL.of e0)
      exact SeqAt.RcAt.list_str _ _ pl.isList (by omega)
    | @tup m p' ys es e1 hl1 h1 =>
      cases ru
      cases rv
      obtain ⟨its,r1,pl,_⟩ := I.list (SqL.of e0)
      obtain ⟨jts,r2,pl',_⟩ := I.tuple (SqT.of e1)
      exact SeqAt.RcAt.list_tuple pl.isList pl' (by omega)
    | @lst m p' ys es e1 hl1 h1 =>
      cases ru
      cases rv
      obtain ⟨its,r1,pl,_⟩ := I.list (SqL.of e0)
      obtain ⟨jts,r2,pl',_⟩ := I.list (SqL.of e1)
      have g1 := r1.length
      have g2 := r2.length
      by_cases hz : ds.length = es.length
      · have y := SeqAt.RcAt.lists (A := A) (e := fun j => deq (ds.getD j .non) (es.getD j .non)) pl.isList pl'.isList (by rw [List.size_toArray,List.size_toArray]; omega) (by omega) (elts_at r1 r2 hl hl1 fun j x y d e u w a b c k ra rb => (h j x d a c).eqAt (h1 j y e b k) I ra rb (by show A.units + 1 + _ < cLine; omega))
        rw [List.size_toArray,← r1.length,hl,deqs_all' hz] at y
        exact y
      · rw [show deq (.lst ds) (.lst es) = false from deqs_len hz]
        exact SeqAt.RcAt.lists_lengths pl.isList pl'.isList (by rw [List.size_toArray,List.size_toArray]; simp; omega) (by omega)
end
section
variable {X : Cx}
def rEqD (neg : Bool) : R2 := fun x y H Q => ∃ d e,Rp H 9 x d ∧ Rp H 9 y e ∧ Q (.bl (if neg then !(deq d e) else deq d e)) H
theorem op_eqD (hu : X.A.units + 10 < cLine) : OpR X (compareOp .Eq) (rEqD false) := by
  intro pins s σ H x y v u Q I rx ry h
  obtain ⟨d,e,rd,re,k⟩ := h
  exact rd.rcAt re I rx ry (by omega) _ _ _ _ ⟨.bl _,H,I,rfl,k⟩
end
section
variable {H : Hp} {n : Nat} {p : Addr} {x y z w : V} {a b c d : D}
theorem Rp.t4 (e : H p = some (.tup [x,y,z,w])) (ha : Rp H n x a) (hb : Rp H n y b) (hc : Rp H n z c) (hd : Rp H n w d) : Rp H (n + 1) (.ref p) (.tup [a,b,c,d]) := .tup e rfl fun j x d h k => by
  match j with
  | 0 => cases h; cases k; exact ha
  | 1 => cases h; cases k; exact hb
  | 2 => cases h; cases k; exact hc
  | 3 => cases h; cases k; exact hd
  | j + 4 => simp at h
mutual
theorem deq_self : ∀ d : D,deq d d = true
  | .non => rfl
  | .bl b => by simp [deq]
  | .int i => by simp [deq]
  | .str x => by simp [deq]
  | .tup ds => by simp only [deq]; exact deqs_same ds
  | .lst ds => by simp only [deq]; exact deqs_same ds
theorem deqs_same : ∀ ds : List D,deqs ds ds = true
  | [] => by simp [deqs]
  | d :: ds => by simp only [deqs,Bool.and_eq_true]; exact ⟨deq_self d,deqs_same ds⟩
end
end
end L2
namespace L2
open PySem PySem.Spec PyProof.Rows
section
variable {X : Cx} {scope : Scope} {cl : List (Str × Addr)} {xs : List Str} {fv : List (Str × Nat)} {elt iter tg : Expr} {ifs : List Expr} {pos : Pos} {te : TE} {tc : TT} {g : TG}
end
end L2
namespace L2
open PySem PySem.Spec PyProof.Rows
end L2
namespace Dr
open PySem PySem.Spec L2 Mth Sp1 Sp2 Sp3 Sp7
def Pot (H : Hp) (p : Addr) (k : Int) : Prop := ∃ a b c : Int,H p = some (.lst [.int a,.int b,.int c]) ∧ 0 ≤ b ∧ b ≤ k ∧ 0 ≤ c ∧ c < 2147483647
def But (p : Addr) (H H' : Hp) : Prop := ∀ b o,b ≠ p → H b = some o → H' b = some o
theorem But.refl {p : Addr} {H : Hp} : But p H H := fun _ _ _ e => e
theorem But.trans {p : Addr} {H H1 H2 : Hp} (a : But p H H1) (b : But p H1 H2) : But p H H2 := fun c o n e => b c o n (a c o n e)
theorem But.of {p : Addr} {H H' : Hp} (s : Same H H') : But p H H' := fun c o _ e => s c o e
theorem But.same {p : Addr} {H0 H H' : Hp} (b : But p H H') (s : Same H0 H) (h : H0 p = none) : Same H0 H' := fun c o e => b c o (ne_of_none e h) (s c o e)
theorem Pot.mono {H : Hp} {p : Addr} {k k' : Int} (h : Pot H p k) (hk : k ≤ k') : Pot H p k' := by
  obtain ⟨a,b,c,e,h0,h1,h2,h3⟩ := h
  exact ⟨a,b,c,e,h0,by omega,h2,h3⟩
theorem Pot.same {H H' : Hp} {p : Addr} {k : Int} (h : Pot H p k) (s : Same H H') : Pot H' p k := by
  obtain ⟨a,b,c,e,h0⟩ := h
  exact ⟨a,b,c,s _ _ e,h0⟩
theorem But.t {p : Addr} {H H' : Hp} {k : Int} (b : But p H H') (h : Pot H p k) : SameT H H' := fun c xs e => by
  obtain ⟨x,y,z,ep,_⟩ := h
  exact b c _ (ne_of e ep (by intro z; cases z)) e
theorem Pot.ne {H : Hp} {p l : Addr} {k : Int} (h : Pot H p k) (hl : H l = none) : l ≠ p := fun z => by
  obtain ⟨x,y,w,ep,_⟩ := h
  subst z
  rw [hl] at ep
  cases ep
theorem But.none {p l : Addr} {H H' : Hp} (b : But p H H') (n : l ≠ p) (h : H' l = none) : H l = none := by
  cases e : H l with
  | none => rfl
  | some o =>
    rw [b l o n e] at h
    cases h
def spCell (K : PySem.W.Frag) : Sp := fun vs H Q _ => ∃ (sa : Addr) (ss : List Int) (k : Int),vs = [.ref sa,.int k] ∧ SqL K H sa (ss.map V.int) ∧ 0 ≤ k ∧ ∀ c : Int,Q (.int c) H
def spBegun : Sp := fun vs H Q _ => ∃ c : Int,vs = [.int c] ∧ ∀ (p : Addr) (H' : Hp),Same H H' → H p = none → Pot H' p 0 → Q (.ref p) H'
def spTk : Sp := fun vs H Q _ => ∃ (p : Addr) (m k : Int),vs = [.ref p,.int m] ∧ Pot H p k ∧ k ≤ 1000000 ∧ (0 < m ∧ bits m ≤ 8000) ∧ ∀ (r : Int) (H' : Hp),0 ≤ r → r < m → But p H H' → Pot H' p (k + 1) → Q (.int r) H'
def spWd : Sp := fun vs H Q _ => ∃ (p : Addr) (m k : Int),vs = [.ref p,.int m] ∧ Pot H p k ∧ k ≤ 900000 ∧ (0 < m ∧ bits m ≤ 8000) ∧ ∀ (r : Int) (H' : Hp),0 ≤ r → r < m → But p H H' → Pot H' p (k + 4) → Q (.int r) H'
def spDLine : Sp := fun vs H Q _ => ∃ (p : Addr) (k : Int),vs = [.ref p] ∧ Pot H p k ∧ k ≤ 800000 ∧ ∀ (l : Addr) (qs : Crn) (H' : Hp),LineM H' l qs → 1 ≤ qs.length → qs.length ≤ 10 → H l = none → But p H H' → Pot H' p (k + 100) → Q (.ref l) H'
def spMoved : Sp := fun vs H Q _ => ∃ (p : Addr) (n k : Int),vs = [.ref p,.int n] ∧ Pot H p k ∧ k ≤ 900000 ∧ ∀ (r : Int) (H' : Hp),Sm r → But p H H' → Pot H' p (k + 1) → Q (.int r) H'
def spOther : Sp := fun vs H Q _ => ∃ (p l : Addr) (qs : Crn) (k : Int),vs = [.ref p,.ref l] ∧ Pot H p k ∧ k ≤ 700000 ∧ LineM H l qs ∧ (1 ≤ qs.length ∧ qs.length ≤ 10) ∧ ∀ (r : Addr) (rs : Crn) (H' : Hp),LineM H' r rs → 1 ≤ rs.length → rs.length ≤ 10 → H r = none → But p H H' → Q (.ref r) H'
def spLines (K : PySem.W.Frag) : Sp := fun vs H Q _ => ∃ (sa : Addr) (ss : List Int),vs = [.ref sa] ∧ SqL K H sa (ss.map V.int) ∧ ∀ (t l r : Addr) (qs rs : Crn) (H' : Hp),Same H H' → H' t = some (.tup [.ref l,.ref r]) → LineM H' l qs → (1 ≤ qs.length ∧ qs.length ≤ 10) → LineM H' r rs → (1 ≤ rs.length ∧ rs.length ≤ 10) → H l = none → H r = none → l ≠ r → Q (.ref t) H'
theorem _root_.Sp7.LineM.but {p l : Addr} {H H' : Hp} {qs : Crn} {k : Int} (L : LineM H l qs) (b : But p H H') (h : Pot H p k) (n : l ≠ p) : LineM H' l qs := ⟨b l _ n L.lst,fun q hq => ⟨b.t h _ _ (L.crn q hq).1,(L.crn q hq).2⟩⟩
end Dr
namespace Dr
open PySem PySem.Spec L2 Mth Sp1 Sp2 Sp3 Sp7
theorem ixN_of {n : Nat} {i : Int} (h0 : 0 ≤ i) (h1 : i < (n : Int)) : ixN n i = some i.toNat := by
  unfold ixN
  rw [if_pos h0,if_pos h1]
theorem menuI {K : PySem.W.Frag} {H : Hp} {l : Addr} {xs : List V} {i : Int} {Q : VK} (C : Int → Prop) (e : H l = some (.lst xs)) (h0 : 0 ≤ i) (h1 : i < (xs.length : Int)) (hC : ∀ v ∈ xs,∃ m,v = .int m ∧ C m) (h : ∀ m,C m → Q (.int m) H) : rIxL K (.ref l) (.int i) H Q :=
  menu e h0 h1 fun v hv => by
    obtain ⟨m,rfl,hc⟩ := hC v hv
    exact h m hc
theorem at_crn {qs : Crn} {k : Int} (h0 : 0 ≤ k) (h1 : k < (qs.length : Int)) : ∃ q,qs[k.toNat]? = some q ∧ atI (qs.map fun (q : Addr × Int × Int) => V.ref q.1) k = some (.ref q.1) := by
  have hk : k.toNat < qs.length := by omega
  refine ⟨qs[k.toNat],List.getElem?_eq_getElem hk,?_⟩
  have := atI_nat (xs := qs.map fun (q : Addr × Int × Int) => V.ref q.1) (j := k.toNat) (v := .ref qs[k.toNat].1) (by rw [List.getElem?_map,List.getElem?_eq_getElem hk]; rfl)
  rw [show ((k.toNat : Nat) : Int) = k by omega] at this
  exact this
def ifBody (s : Stmt) : Stmt := match s with
  | .If _ (b :: _) _ _ => b
  | _ => .Pass ⟨0,0,0,0⟩
def retExpr (s : Stmt) : Expr := match s with
  | .Return (some e) _ => e
  | .Assign _ e _ => e
  | .If e _ _ _ => e
  | _ => .Name "" ⟨0,0,0,0⟩
end Dr
namespace Dr
open PySem
def compScope (e : Expr) : Scope := match e with
  | .ListComp _ _ sc _ => sc
  | .Call _ [.ListComp _ _ sc _] _ _ => sc
  | _ => { kind := .function,names := [],isGenerator := false,isCoroutine := false }
end Dr
namespace PySem
namespace F
theorem lri_no_len : typeLookup (.type "list_reverseiterator") (Str.ofString "__len__") = pure none := by rw [typeLookup_type,builtinLookup_eq_fast]; kernel_rfl
theorem lri_hint : typeLookup (.type "list_reverseiterator") (Str.ofString "__length_hint__") = pure (some (.builtin "list_reverseiterator.__length_hint__")) := by rw [typeLookup_type,builtinLookup_eq_fast]; kernel_rfl
end F
section
variable {prog : Program} {w : World} {A : Around} {E : Value → Shared → Prop} {s : Shared}
theorem wpAny_hint_rev {it : Addr} {Q : Bool → Shared → Prop} (hT : s.TypeIs (.ref it) "list_reverseiterator") (h : Q false s) : wpAny (model prog w) A (Builtin.List.listLengthHint (.ref it)) Q E s := by
  unfold Builtin.List.listLengthHint
  refine wpAny_bind (wpAny_specialOf hT F.lri_no_len ?_)
  show wpAny _ A (specialOf (Value.ref it) (Str.ofString "__length_hint__") >>= _) _ _ _
  refine wpAny_bind (wpAny_specialOf hT F.lri_hint ?_)
  generalize hid : ("list_reverseiterator.__length_hint__" : String) = id0
  wp_delta
  rw [show splitId id0 = some ("list_reverseiterator","__length_hint__") from by subst hid; decide +kernel]
  subst hid
  refine wpAny_bind (wpAny_isInstance (T := "list_reverseiterator") (b := true) hT (by rw [isSubtype_type]; kernel_rfl) ?_)
  refine wpAny_ite_split (fun hab => absurd hab (by decide)) (fun _ => ?_)
  refine wpAny_ite_split (fun _ => ?_) (fun hab => absurd (by decide +kernel) hab)
  refine wpAny_ite_split (fun hab => absurd hab (by decide +kernel)) (fun _ => ?_)
  exact wpAny_pure h
theorem wpAny_extend_rev {R : Result → Shared → Prop} {it l : Addr} {items : Array Value} (hh : A.handled = none) (hit : s.heap.IsRevIter it l ((items.size : Int) - 1)) (hl : s.heap.IsList l items) (hne : l ≠ it) (hn : items.size ≤ sizeLine) (S : Addr) (res : Value) (c₀ : Nat) (hSi : S ≠ it) (hSl : S ≠ l)
    (hS : s.heap.get? S = some { cls := .type "list",data := .seq #[] c₀ })
    (hR : ∀ h' tk acc' c',(∀ b o,b ≠ S → b ≠ it → s.heap.get? b = some o → h'.get? b = some o) → h'.get? S = some { cls := .type "list",dict := none,data := .seq acc' c',slots := #[] } →
      ItemsOf (fun i v => items[items.size - 1 - i]? = some v) acc' items.size → R (.ok (.ret res)) { s with heap := h',toks := tk }) :
    wpAny (model prog w) A.in1 (Builtin.List.listExtendWith (.ref S) (.ref it) res)
      (fun fin s' => match fin with | .done f => R (.ok f) s' | .again c' => c'.quiet = true ∧ codeAny (model prog w) A c' R s') (fun e s' => R (.error e) s') s := by
  have W := (Walks.listRev (prog := prog) (w := w) (A := A.in1) hh it l hne items).toS
  have hSf : S ∉ [it,l] := fun hm => by
    simp only [List.mem_cons,List.not_mem_nil,or_false] at hm
    rcases hm with e | e
    · exact hSi e
    · exact hSl e
  unfold Builtin.List.listExtendWith
  refine wpAny_bind (wpAny_typeOf hit.typeIs ?_)
  have h1 : Builtin.List.listSameRef (.ref S) (.ref it) = false := by simp [Builtin.List.listSameRef,hSi]
  have h2 : (Value.type "list_reverseiterator" == Value.type "list") = false := by decide
  have h3 : (Value.type "list_reverseiterator" == Value.type "tuple") = false := by decide
  simp only [h1,h2,h3,Bool.or_false,Bool.false_eq_true,if_false]
  refine wpAny_bind (wpAny_pyIter_revIter hit ?_)
  refine wpAny_bind (wpAny_holding (wpAny_hint_rev hit.typeIs ?_))
  refine wpAny_ite_split (fun hab => absurd hab (by decide +kernel)) (fun _ => ?_)
  refine wpAny_pure ⟨plainId_quiet F.plain_extend_loop _,codeAny_extend_loopS W hn S hSf res items.size 0 s #[] c₀ rfl (Nat.zero_le _) ⟨Nat.zero_le _,by simpa using hit,hl⟩ hS (ItemsOf.nil _) fun s' acc' c' hm hS' hacc => ?_⟩
  rw [Moved.eq_with hm]
  refine hR s'.heap s'.toks acc' c' (fun b o hb hi e => hm.heap b o (fun hmem => ?_) e) hS' hacc
  rcases List.mem_cons.mp hmem with e' | hmem
  · exact hb e'
  · exact hi (List.mem_singleton.mp hmem)
theorem call_list_rev {Q : Value → Shared → Prop} {it l : Addr} {items : Array Value} (hh : A.handled = none) (hit : s.heap.IsRevIter it l ((items.size : Int) - 1)) (hl : s.heap.IsList l items) (hne : l ≠ it) (hn : items.size ≤ sizeLine)
    (hQ : ∀ h' tk acc' c',(∀ b o,b ≠ it → s.heap.get? b = some o → h'.get? b = some o) →
      h'.get? s.heap.objs.size = some { cls := .type "list",dict := none,data := .seq acc' c',slots := #[] } → ItemsOf (fun i v => items[items.size - 1 - i]? = some v) acc' items.size → Q (.ref s.heap.objs.size) { s with heap := h',toks := tk }) :
    wpAny (model prog w) A (call (.type "list") [.ref it]) Q E s := by
  obtain ⟨oi,hoi,_⟩ := id hit
  obtain ⟨ol,hol,_⟩ := id hl
  have hi := Heap.lt_size hoi
  have hll := Heap.lt_size hol
  refine callType_codes (Q₁ := fun obj s₁ => obj = .ref s.heap.objs.size ∧ s₁ = { s with heap := s.heap.push { cls := .type "list",data := .seq #[] } }) F.called_list (F.typeCall_list_1 _) F.entry_list_init
    (code_list_new _ ⟨rfl,rfl⟩) fun obj s₁ h₁ => ?_
  obtain ⟨rfl,rfl⟩ := h₁
  have hS : (s.heap.push { cls := .type "list",data := .seq #[] }).get? s.heap.objs.size = some { cls := .type "list",data := .seq #[] } := Heap.get?_push_size _ rfl
  refine ⟨⟨_,hS,rfl⟩,F.args_list_init_2 _ _,?_⟩
  show wpAny _ _ (do let old ← Builtin.List.listItems (.ref s.heap.objs.size); Builtin.List.listUpdate (.ref s.heap.objs.size) (fun _ => #[]); letGo old.toList.reverse; Builtin.List.listExtendWith (.ref s.heap.objs.size) (.ref it) .none) _ _ _
  refine wpAny_bind ?_
  unfold Builtin.List.listItems
  refine wpAny_bind (wpAny_seqItems hS rfl (wpAny_pure ?_))
  show wpAny _ _ (updateSeq s.heap.objs.size (fun _ => #[]) >>= fun _ => letGo (#[] : Array Value).toList.reverse >>= fun _ => Builtin.List.listExtendWith (.ref s.heap.objs.size) (.ref it) .none) _ _ _
  refine wpAny_bind (wpAny_updateSeq hS rfl ?_)
  have hS₂ := Heap.get?_update_self (Obj.mapSeq (fun _ => (#[] : Array Value))) hS rfl
  have oth : ∀ b o,b ≠ s.heap.objs.size → s.heap.get? b = some o → ((s.heap.push { cls := .type "list",data := .seq #[] }).update s.heap.objs.size (Obj.mapSeq (fun _ => (#[] : Array Value)))).get? b = some o :=
    fun b o hb e => (Heap.get?_update_other _ _ (Ne.symm hb)).trans (Heap.get?_push_of_some _ e)
  refine wpAny_bind (wpAny_letGo ?_)
  refine wpAny_extend_rev (A := A.in1) hh (hit.at fun o e => oth it o (Nat.ne_of_lt hi) e) (hl.at fun o e => oth l o (Nat.ne_of_lt hll) e) hne hn _ .none _ (Nat.ne_of_gt hi) (Nat.ne_of_gt hll) hS₂ fun h' tk acc' c' hk hS' hacc => ?_
  exact ⟨rfl,hQ h' tk acc' c' (fun b o hb e => hk b o (Nat.ne_of_lt (Heap.lt_size e)) hb (oth b o (Nat.ne_of_lt (Heap.lt_size e)) e)) hS' hacc⟩
end
end PySem
namespace L2
open PySem PySem.Spec PyProof.Rows
section
variable {X : Cx} {e : Expr} {te : TE} {p1 p2 q1 q2 : Pos}
theorem bt_reversed : bootBuiltins "reversed" = some (.type "reversed") := by decide +kernel
def tListRev (K : PySem.W.Frag) (te : TE) : TE := fun σ H Q => te σ H fun x H1 => ∃ a xs,[x] = [.ref a] ∧ SqL K H1 a xs ∧ ∀ l H2,Same H1 H2 → H2 l = some (.lst xs.reverse) → H1 l = none → Q (.ref l) H2
theorem pe_list_rev (hcalm : X.calm = true) (gl : Gl X "list") (ml : X.mg "list" = none) (gr : Gl X "reversed") (mr : X.mg "reversed" = none) (he : PE X e te)
    (h1 : starEach [.Call (.Name "reversed" p1) [e] [] q1] X.env = [(false,eval (.Call (.Name "reversed" p1) [e] [] q1) X.env)] := by rfl) (h2 : starEach [e] X.env = [(false,eval e X.env)] := by rfl) :
    PE X (.Call (.Name "list" p2) [.Call (.Name "reversed" p1) [e] [] q1] [] q2) (tListRev X.K te) := by
  intro pins s σ H Q I h
  have h' : (tCons te tNil) σ H (fun vs H1 => ∃ a xs,vs = [.ref a] ∧ SqL X.K H1 a xs ∧ ∀ l H2,Same H1 H2 → H2 l = some (.lst xs.reverse) → H1 l = none → Q (.ref l) H2) := h
  have inner : wpAny (model X.prog X.w) X.A (eval (.Call (.Name "reversed" p1) [e] [] q1) X.env) (fun u s1 => ∃ (it a : Addr) (xs : List V) (its : List Value) (H1 : Hp),u = .ref it ∧ Inv X pins σ H1 s1 ∧ Vals xs its ∧ s1.heap.IsList a its.toArray ∧ xs.length ≤ sizeLine ∧ a ≠ it ∧ FpOk X pins H1 it ∧ s1.heap.IsRevIter it a ((its.toArray.size : Int) - 1) ∧
      ∀ l H2,Same H1 H2 → H2 l = some (.lst xs.reverse) → H1 l = none → Q (.ref l) H2) X.xe s := by
    refine wpAny_Call_Name_kw (ld_blt I gr mr bt_reversed (PyProof.Rows.callWith_type1 (thn ((pa_cons he pa_nil h2) q1 pins s σ H (fun vs H1 => ∃ a xs,vs = [.ref a] ∧ SqL X.K H1 a xs ∧ ∀ l H2,Same H1 H2 → H2 l = some (.lst xs.reverse) → H1 l = none → Q (.ref l) H2) I ?_) fun us s1 ⟨vs,H1,I1,r1,q⟩ => ?_) h2 rfl))
    · exact h'
    · obtain ⟨a,xs,rfl,hx,k⟩ := q
      obtain ⟨u,rfl,ru⟩ := vals1 r1
      cases ru
      obtain ⟨its,rv,pl,hz⟩ := I1.list hx
      refine call_reversed_list pl.isList ?_
      have al : a < s1.heap.objs.size := by obtain ⟨_,e,_⟩ := pl.isList; exact Heap.lt_size e
      have kp : ∀ b o,s1.heap.get? b = some o → (s1.heap.push (revObj a ((its.toArray.size : Int) - 1))).get? b = some o := fun b o e => Heap.get?_push_of_some _ e
      exact ⟨_,a,xs,its,H1,rfl,I1.kept (t' := s1.toks) kp,rv,pl.isList.at fun o e => kp _ o e,hz,Nat.ne_of_lt al,I1.fpOk (Nat.le_refl _) (I1.hok.fresh (Nat.le_refl _)),⟨_,Heap.get?_push_size _ rfl,rfl,rfl⟩,k⟩
  refine wpAny_Call_Name_kw (ld_blt I gl ml bt_list (PyProof.Rows.callWith_type1 ?_ h1 rfl))
  rw [h1]
  refine Calls.spliced_cons (thn inner fun u s1 ⟨it,a,xs,its,H1,eu,I1,rv,hl,hz,hne,fp,hrev,k⟩ => ?_)
  subst eu
  refine Calls.spliced_nil ?_
  have hlen := rv.length
  refine call_list_rev (I.ok.hd hcalm) hrev hl hne (by rw [List.size_toArray]; omega) fun h' tk acc' c' hk hS hacc => ?_
  obtain ⟨f0,f1,f2,f3,f4,f5⟩ := fp
  have hfr : H1 s1.heap.objs.size = none := I1.hok.fresh (Nat.le_refl _)
  have J1 : Inv X pins σ H1 { s1 with heap := h',toks := tk } := I1.turned (fun b o hb e => hk b o hb e) f0 f1 f3 f4 f5
  have hv : Vals xs.reverse acc'.toList := by
    have e : acc' = its.reverse.toArray := by
      obtain ⟨h3,h4⟩ := hacc
      refine Array.ext ?_ fun j hj1 hj2 => ?_
      · rw [h3]; simp
      · have z := h4 j _ (Array.getElem?_eq_getElem hj1)
        rw [List.size_toArray] at z
        have hj : j < its.length := by simpa using hj2
        have z' : its[its.length - 1 - j]? = some acc'[j] := by simpa using z
        have y : its.reverse[j]? = its[its.length - 1 - j]? := by rw [List.getElem?_reverse hj]
        rw [z'] at y
        have y2 : its.reverse.toArray[j]? = some acc'[j] := by simpa using y
        rw [Array.getElem?_eq_getElem hj2] at y2
        exact (Option.some.inj y2).symm
    rw [e]
    exact rv.reverse
  have hn : X.s₀.heap.get? s1.heap.objs.size = none := by
    cases e : X.s₀.heap.get? s1.heap.objs.size with
    | none => rfl
    | some o => exact absurd (Nat.lt_of_lt_of_le (Heap.lt_size e) I1.sz) (Nat.lt_irrefl _)
  obtain ⟨g0,g1,g2,g3,g4,g5⟩ := I1.fpOk (H' := H1) (Nat.le_refl _) hfr
  have J2 := J1.track (o := .lst xs.reverse) hfr hn g1 g4 g5 ⟨by rw [List.length_reverse]; exact hz,acc'.toList,c',hv,by simpa using hS⟩
  exact ⟨.ref s1.heap.objs.size,_,J2,rfl,k _ _ (Same.new hfr) upd_same hfr⟩
end
section
variable {X : Cx}
def rInsA : V → List V → Hp → VK → Prop := fun x vs H Q => ∃ (l : Addr) (xs : List V) (i : Int) (y : V),x = .ref l ∧ vs = [.int i,y] ∧ H l = some (.lst xs) ∧ (0 ≤ i ∧ i ≤ (xs.length : Int)) ∧ xs.length < 1000 ∧ ∀ H',Upd H H' l xs (xs.take i.toNat ++ [y] ++ xs.drop i.toNat) → Q .non H'
theorem ins_eq {its : List Value} {u2 : Value} {i : Int} (h0 : 0 ≤ i) (h1 : i ≤ (its.length : Int)) : (fun xs : Array Value => have k := if i < 0 then (i + (xs.size : Int)).toNat else min i.toNat xs.size; (xs.extract 0 k).push u2 ++ xs.extract k) its.toArray = (its.take i.toNat ++ [u2] ++ its.drop i.toNat).toArray := by
  have hmin : min i.toNat its.toArray.size = i.toNat := by rw [List.size_toArray]; omega
  dsimp only
  rw [if_neg (by omega),hmin]
  simp
  exact List.take_of_length_le (by rw [List.length_drop]; exact Nat.le_refl _)
theorem mt_insA : MtM X "list.insert" rInsA := by
  intro pins s σ H x vs v us Q I rx rv h
  obtain ⟨l,xs,i,y,rfl,rfl,hH,⟨h0,h1⟩,hz,q⟩ := h
  cases rx
  obtain ⟨u1,u2,rfl,r1,r2⟩ := vals2 rv
  obtain ⟨t,rfl⟩ := r1
  obtain ⟨z,its,n,r,hl,e⟩ := I.lstM hH
  have hsz : its.toArray.size ≤ sizeLine := by rw [List.size_toArray]; exact Sp1.sz (by omega)
  have e63 : (2 : Int) ^ 63 = 9223372036854775808 := by decide
  have b1 : -(2 ^ 63) ≤ i := by rw [e63]; omega
  have b2 : i < 2 ^ 63 := by rw [e63]; omega
  have hfit : ¬ (!Builtin.List.listFitsIndex i) = true := by
    rw [fitsIndex_both b1 b2]
    exact Bool.false_ne_true
  have hf := ins_eq (its := its) (u2 := u2) h0 (by omega)
  clear b1 b2 e63
  refine call_meets F.slot_list_insert ⟨_,e,rfl⟩ F.entry_list_insert (F.args_list_insert_3 _ _ _) (AutoSeq1.list_insert_list_int_val_1 l its.toArray n i t u2 hfit hsz) ⟨e,?_⟩
  refine ⟨.non,_,I.lset (its' := its.take i.toNat ++ [u2] ++ its.drop i.toNat) (ys := xs.take i.toNat ++ [y] ++ xs.drop i.toNat) hH e hf (((r.take i.toNat).append (.cons r2 .nil)).append (r.drop i.toNat)) ?_,rfl,q _ (.mk' hH)⟩
  refine Sp1.sz ?_
  simp only [List.length_append,List.length_take,List.length_drop,List.length_cons,List.length_nil]
  omega
end
end L2
namespace Wk
open PySem PySem.Spec L2 Mth Sp1 Sp2 Sp3 Sp7 Dr
structure Pr where
  p : Addr
  x : Addr
  y : Addr
  a : Int
  b : Int
  c : Int
  d : Int
structure PrAt (H : Hp) (q : Pr) : Prop where
  p_ : H q.p = some (.tup [.ref q.x,.ref q.y])
  x_ : H q.x = some (.tup [.int q.a,.int q.b])
  y_ : H q.y = some (.tup [.int q.c,.int q.d])
  lx : Low q.a q.b
  ly : Low q.c q.d
  nx : 0 ≤ q.a
  ny : 0 ≤ q.c
  ba : bits q.a ≤ 200
  bb : bits q.b ≤ 60
  bc : bits q.c ≤ 200
  bd : bits q.d ≤ 60
theorem PrAt.t {H H' : Hp} {q : Pr} (h : PrAt H q) (s : SameT H H') : PrAt H' q := ⟨s _ _ h.p_,s _ _ h.x_,s _ _ h.y_,h.lx,h.ly,h.nx,h.ny,h.ba,h.bb,h.bc,h.bd⟩
def prs (ps : List Pr) : List V := ps.map fun q => V.ref q.p
structure PairsAt (H : Hp) (l : Addr) (ps : List Pr) : Prop where
  lst : H l = some (.lst (prs ps))
  pr : ∀ q ∈ ps,PrAt H q
theorem PairsAt.mono {H H' : Hp} {l : Addr} {ps : List Pr} (h : PairsAt H l ps) (s : Same H H') : PairsAt H' l ps := ⟨s _ _ h.lst,fun q hq => (h.pr q hq).t s.t⟩
theorem prs_len (ps : List Pr) : (prs ps).length = ps.length := List.length_map _
def wHops : Str := "hops"
def wFree : Str := "free"
def wPart : Str := "part"
def wOn : Str := "on"
def goB (way : Str) (a b c d : Int) : Bool :=
  if way = wHops then (decide (b = 1) && (decide (d = 1) && (decide (c - a = 0) || decide (c - a = 1))))
  else if way = wFree then shareB a b c d
  else (!decide (c * b < a * d)) && shareB a b c d
def stepB (way : Str) (u v : Pr) : Bool := goB way u.a u.b v.a v.b && goB way u.c u.d v.c v.d
def stepsB (way : Str) : List Pr → Bool
  | u :: v :: r => stepB way u v && stepsB way (v :: r)
  | _ => true
def isP (a b n : Int) : Bool := decide (a = n) && decide (b = 1)
def endsB (n m : Int) (way : Str) (f l : Pr) : Bool :=
  if isP f.a f.b 0 && isP l.a l.b n then (if way = wPart then true else isP f.c f.d 0 && isP l.c l.d m) else false
def inB (n m : Int) (q : Pr) : Bool := (decide (q.a ≤ n * q.b)) && (decide (q.c ≤ m * q.d))
def walkB (n m : Int) (way : Str) (ps : List Pr) : Bool :=
  match ps with
  | [] => false
  | f :: r => (f :: r).all (inB n m) && (endsB n m way f ((f :: r).getLast (by simp)) && stepsB way (f :: r))
theorem walkB_cons (n m : Int) (way : Str) (f : Pr) (r : List Pr) : walkB n m way (f :: r) = ((f :: r).all (inB n m) && (endsB n m way f ((f :: r).getLast (by simp)) && stepsB way (f :: r))) := rfl
def pairV (n m : Int) (H : Hp) : V → Bool
  | .ref p => match H p with
    | some (.tup [x,y]) => placeV n H x && placeV m H y
    | _ => false
  | _ => false
def pairsV (n m : Int) (H : Hp) : V → Bool
  | .ref p => match H p with
    | some (.lst xs) => !xs.isEmpty && xs.all (pairV n m H)
    | _ => false
  | _ => false
theorem kn_back {H H' : Hp} {p : Addr} {t : String} {o : HO} (k : Kn H (.ref p) t) (s : Same H H') (e : H' p = some o) : H p = some o := by
  cases k with
  | lst e1 => rw [s _ _ e1] at e; rw [e1]; exact e
  | tup e1 => rw [s _ _ e1] at e; rw [e1]; exact e
  | dict e1 => rw [s _ _ e1] at e; rw [e1]; exact e
theorem placeV_same {n : Int} {H H' : Hp} {v : V} (h : Thing H v) (s : Same H H') : placeV n H' v = placeV n H v := by
  obtain ⟨t,k⟩ := h.kn
  cases k with
  | non => rfl
  | bl b => rfl
  | int i => rfl
  | str x => rfl
  | lst e => simp only [placeV,e,s _ _ e]
  | tup e => simp only [placeV,e,s _ _ e]
  | dict e => simp only [placeV,e,s _ _ e]
theorem pairV_tup {n m : Int} {H : Hp} {p : Addr} {x y : V} (e : H p = some (.tup [x,y])) : pairV n m H (.ref p) = (placeV n H x && placeV m H y) := by simp only [pairV,e]
theorem pairsV_lst {n m : Int} {H : Hp} {p : Addr} {xs : List V} (e : H p = some (.lst xs)) : pairsV n m H (.ref p) = (!xs.isEmpty && xs.all (pairV n m H)) := by simp only [pairsV,e]
theorem Kn.cases_lst' {H : Hp} {n m : Int} {y : V} {t : String} (k : Kn H y t) : (∃ p xs,y = .ref p ∧ H p = some (.lst xs) ∧ t = "list") ∨ (pairsV n m H y = false ∧ isSub t "list" = false) := by
  cases k with
  | lst e => exact .inl ⟨_,_,rfl,e,rfl⟩
  | non => exact .inr ⟨rfl,by decide⟩
  | bl b => exact .inr ⟨rfl,by decide⟩
  | str x => exact .inr ⟨rfl,by decide⟩
  | int a => exact .inr ⟨rfl,by decide⟩
  | tup e => exact .inr ⟨by simp only [pairsV,e],by decide⟩
  | dict e => exact .inr ⟨by simp only [pairsV,e],by decide⟩
theorem Kn.cases_tp' {H : Hp} {n m : Int} {y : V} {t : String} (k : Kn H y t) : (∃ p xs,y = .ref p ∧ H p = some (.tup xs) ∧ t = "tuple") ∨ (pairV n m H y = false ∧ isSub t "tuple" = false) := by
  cases k with
  | tup e => exact .inl ⟨_,_,rfl,e,rfl⟩
  | non => exact .inr ⟨rfl,by decide⟩
  | bl b => exact .inr ⟨rfl,by decide⟩
  | str x => exact .inr ⟨rfl,by decide⟩
  | int a => exact .inr ⟨rfl,by decide⟩
  | lst e => exact .inr ⟨by simp only [pairV,e],by decide⟩
  | dict e => exact .inr ⟨by simp only [pairV,e],by decide⟩
def isWay (w : Str) : Prop := w = wOn ∨ w = wPart ∨ w = wFree ∨ w = wHops
instance (w : Str) : Decidable (isWay w) := inferInstanceAs (Decidable (_ ∨ _))
def spWayS (C : Addr) : Sp := fun vs H Q E => ∃ (x : V) (t : String),vs = [x] ∧ Kn H x t ∧ ((∃ w,x = .str w ∧ isWay w ∧ Q .non H) ∨ ((∀ w,x = .str w → ¬ isWay w) ∧ E (.ref C) none H))
end Wk
namespace L2
open PySem PySem.Spec PyProof.Rows
end L2
namespace Fnc
open PySem PySem.Spec L2 Mth Sp1 Sp2 Sp3 Sp7 Dr Wk
def ltB (a b c d : Int) : Bool := decide (a * d < c * b)
def backB (u v : Pr) : Bool := !ltB u.a u.b v.a v.b && !ltB v.c v.d u.c u.d
def keepX (u v : Pr) : Bool := decide ([u.a,u.b] = [v.a,v.b]) && (decide (u.b = 1) && shareB u.c u.d v.c v.d)
def keepY (u v : Pr) : Bool := decide ([u.c,u.d] = [v.c,v.d]) && (decide (u.d = 1) && shareB u.a u.b v.a v.b)
def slideB (u v : Pr) : Bool := keepX u v || keepY u v
def asideB (u v : Pr) : Bool := (decide (v.a - u.a ≤ 0) && decide (u.c - v.c ≤ 1)) || (decide (v.a - u.a ≤ 1) && decide (u.c - v.c ≤ 0))
def mayB (way : Str) (u v : Pr) : Bool := if way = wHops then asideB u v else if way = wFree then slideB u v else (backB u v || slideB u v)
def fstepsB (way : Str) : List Pr → Bool
  | u :: v :: r => mayB way u v && fstepsB way (v :: r)
  | _ => true
def fendsB (n m : Int) (way : Str) (f l : Pr) : Bool := if way = wPart then (isP f.c f.d m && isP l.c l.d 0) else ((isP f.c f.d m || isP f.a f.b 0) && (isP l.c l.d 0 || isP l.a l.b n))
def wholeB (q : Pr) : Bool := decide (q.b = 1) && decide (q.d = 1)
def fenceB (n m : Int) (way : Str) (ps : List Pr) : Bool :=
  match ps with
  | [] => false
  | f :: r => (f :: r).all (inB n m) && ((if way = wHops then (f :: r).all wholeB else true) && (fendsB n m way f ((f :: r).getLast (by simp)) && fstepsB way (f :: r)))
theorem fenceB_cons (n m : Int) (way : Str) (f : Pr) (r : List Pr) : fenceB n m way (f :: r) = ((f :: r).all (inB n m) && ((if way = wHops then (f :: r).all wholeB else true) && (fendsB n m way f ((f :: r).getLast (by simp)) && fstepsB way (f :: r)))) := rfl
theorem di (i j : Int) : decide (V.int i = V.int j) = decide (i = j) := by
  rw [Bool.eq_iff_iff]
  simp
theorem ds {u v : Str} {b : Bool} (h : decide (V.str u = V.str v) = b) : decide (u = v) = b := by
  rw [← h,Bool.eq_iff_iff]
  simp
end Fnc
namespace Fnc
open PySem PySem.Spec L2 Mth Sp1 Sp2 Sp3 Sp7 Dr Wk
end Fnc
namespace Fnc
open PySem PySem.Spec L2 Mth Sp1 Sp2 Sp3 Sp7 Dr Wk
def ptB (wy : Str) : Bool := decide (wy = wPart)
def e1B (m : Int) (wy : Str) (f : Pr) : Bool := isP f.c f.d m || (!ptB wy && isP f.a f.b 0)
def e2B (n : Int) (wy : Str) (z : Pr) : Bool := isP z.c z.d 0 || (!ptB wy && isP z.a z.b n)
theorem fends_eq (n m : Int) (wy : Str) (f z : Pr) : fendsB n m wy f z = (e1B m wy f && e2B n wy z) := by
  unfold fendsB e1B e2B ptB
  by_cases h : wy = wPart
  · rw [if_pos h,decide_eq_true h]
    simp
  · rw [if_neg h,decide_eq_false h]
    simp
end Fnc
namespace L2
open PySem PySem.Spec PyProof.Rows
section
variable {κ : Type} [DecidableEq κ]
def putK (kvs : List (κ × V)) (k : κ) (v : V) : List (κ × V) :=
  if (kvs.any fun kv => decide (kv.1 = k)) = true then kvs.map (fun kv => if kv.1 = k then (kv.1,v) else kv) else kvs ++ [(k,v)]
theorem length_putK (kvs : List (κ × V)) (k : κ) (v : V) : (putK kvs k v).length ≤ kvs.length + 1 := by
  unfold putK
  split
  · rw [List.length_map]; omega
  · rw [List.length_append,List.length_cons,List.length_nil]; omega
theorem KV.any {kvs : List (κ × V)} {vs : List (κ × Value)} (r : KV kvs vs) (k : κ) : (kvs.any fun kv => decide (kv.1 = k)) = vs.any fun kv => decide (kv.1 = k) := by
  unfold KV at r
  induction r with
  | nil => rfl
  | cons h t ih => rw [List.any_cons,List.any_cons,ih,h.1]
theorem KV.repl {kvs : List (κ × V)} {vs : List (κ × Value)} (r : KV kvs vs) (k : κ) {y : V} {u : Value} (ry : RelV y u) :
    KV (kvs.map fun kv => if kv.1 = k then (kv.1,y) else kv) (vs.map fun kv => if kv.1 = k then (kv.1,u) else kv) := by
  unfold KV at r ⊢
  induction r with
  | nil => exact .nil
  | @cons p q ps qs h t ih =>
    rw [List.map_cons,List.map_cons]
    refine .cons ?_ ih
    obtain ⟨h1,h2⟩ := h
    by_cases e : p.1 = k
    · rw [if_pos e,if_pos (h1.symm.trans e)]; exact ⟨h1,ry⟩
    · rw [if_neg e,if_neg (fun z => e (h1.trans z))]; exact ⟨h1,h2⟩
theorem KV.put {kvs : List (κ × V)} {vs : List (κ × Value)} (r : KV kvs vs) (k : κ) {y : V} {u : Value} (ry : RelV y u) : KV (putK kvs k y) (stored vs k u) := by
  unfold putK stored
  rw [r.any k]
  by_cases e : (vs.any fun kv => decide (kv.1 = k)) = true
  · rw [if_pos e,if_pos e]; exact r.repl k ry
  · rw [if_neg e,if_neg e]; exact Paired.snoc r ⟨rfl,ry⟩
end
theorem kV_is {P : Program} {w : World} {k : Key} {u : Value} (r : RelV (kV k) u) : (mixKind P w).is k u = true := by
  cases k with
  | inl i => obtain ⟨t,e⟩ := (show ∃ t,u = Value.int i t from r); subst e; exact mixKind_int P w i t
  | inr x => obtain ⟨t,e⟩ := (show ∃ t,u = Value.str x t from r); subst e; exact mixKind_str P w x t
section
variable {P : Program} {w : World} {H : Hp} {h : Heap} {a : Addr}
theorem rd_of {u : HO} (ok : HOk P w H h) (e : Rd H a u) : ObjOk P w H h a u := e.ok ok
theorem dk_rd {kvs : List (Key × V)} (ok : HOk P w H h) (e : Rd H a (.dK kvs)) : kvs.length ≤ sizeLine ∧ (a == sysModules) = false ∧ ∃ vs,KV kvs vs ∧ h.DictOf (mixKind P w) a vs :=
  show ObjOk P w H h a (.dK kvs) from rd_of ok e
theorem dk_of {kvs : List (Key × V)} (ok : HOk P w H h) (e : H a = some (.dK kvs)) : kvs.length ≤ sizeLine ∧ (a == sysModules) = false ∧ ∃ vs,KV kvs vs ∧ h.DictOf (mixKind P w) a vs := dk_rd ok (.inl e)
end
section
variable {X : Cx} {pins : List (Addr × Obj)} {σ : St} {H : Hp} {s : Shared} {a : Addr} {y v : V} {u r : Value} {o : Option V} {A : Around} {E : Value → Shared → Prop}
theorem Inv.big (I : Inv X pins σ H s) : sysModules < s.heap.objs.size := by
  have h : mainGlobals < s.heap.objs.size := (I.mod.glob.keeps I.bk).lt
  exact Nat.lt_trans (by decide) h
theorem d_write {h' : Heap} {t' : Nat} {ob : HO} (I : Inv X pins σ H s) (mu : Mut (H a)) (hs : Heap.SameBut a s.heap h') (he : ∃ q,h'.get? a = some q) (new : ObjOk X.prog X.w (upd H a ob) h' a ob) :
    Inv X pins σ (upd H a ob) { s with heap := h',toks := t' } :=
  I.write (x := a) (e := a) mu (.inl rfl) (fun b q hb z => (hs.2 b hb).trans z) he new
theorem dk_new {P : Program} {w : World} {H' : Hp} {h' : Heap} {kvs : List (Key × V)} {vs : List (Key × Value)} (z : kvs.length ≤ sizeLine) (hd : (a == sysModules) = false) (rel : KV kvs vs) (dd : h'.DictOf (mixKind P w) a vs) :
    ObjOk P w H' h' a (.dK kvs) := ⟨z,hd,vs,rel,dd⟩
end
section
variable {X : Cx} {pins : List (Addr × Obj)} {σ : St} {H : Hp} {s : Shared} {a : Addr} {kvs : List (Key × V)} {k : Key} {u : Value} {A : Around} {E : Value → Shared → Prop}
end
section
variable {X : Cx} {o i e value : Expr} {pos pos' tpos : Pos} {td ty tv : TE}
end
theorem dk_empty {P : Program} {w : World} {H : Hp} (h : Heap) (hb : sysModules < h.objs.size) : ObjOk P w H (h.push { cls := .type "dict",data := .dict #[] }) h.objs.size (.dK []) :=
  ⟨Nat.zero_le _,beq_eq_false_iff_ne.mpr (Ne.symm (Nat.ne_of_lt hb)),[],.nil,Heap.DictOf.new h⟩
def tDNewK : TE := fun _ H Q => ∀ p,H p = none → Q (.ref p) (upd H p (.dK []))
section
variable {X : Cx} {pos : Pos}
theorem pe_dnewK : PE X (.Dict [] [] pos) tDNewK := fun pins s σ H Q I h =>
  wpAny_Dict_empty ⟨.ref s.heap.objs.size,_,I.laid (a := s.heap.objs.size) (o := .dK []) (t' := s.toks) (fun _ _ q => Heap.get?_push_of_some _ q) (Nat.le_refl _) (dk_empty s.heap I.big),rfl,h _ (I.hok.fresh (Nat.le_refl _))⟩
end
def tPairs : List (TE × TE) → St → Hp → (List (V × V) → Hp → Prop) → Prop
  | [],_,H,Q => Q [] H
  | (tk,tv) :: r,σ,H,Q => tk σ H fun x H1 => tv σ H1 fun y H2 => tPairs r σ H2 fun ps H3 => Q ((x,y) :: ps) H3
abbrev VV : List (V × V) → List (Value × Value) → Prop := Paired fun p q => RelV p.1 q.1 ∧ RelV p.2 q.2
def PPs (X : Cx) (pos : Pos) (keys : List (Option Expr)) (values : List Expr) (trs : List (TE × TE)) : Prop :=
  ∀ (pins : List (Addr × Obj)) (s : Shared) (σ : St) (H : Hp) (Q : List (V × V) → Hp → Prop),Inv X pins σ H s → tPairs trs σ H Q →
    wpAny (model X.prog X.w) X.A (evalPairs (pairTrees keys values X.env pos)) (fun vs s' => ∃ ps H',Inv X pins σ H' s' ∧ VV ps vs ∧ Q ps H') X.xe s
theorem pps_nil {X : Cx} {pos : Pos} : PPs X pos [] [] [] := fun pins s σ H Q I h => pairTrees_nil_walk ⟨[],H,I,.nil,h⟩
theorem pps_cons {X : Cx} {pos : Pos} {k v : Expr} {ks : List (Option Expr)} {vs : List Expr} {tk tv : TE} {trs : List (TE × TE)} (hk : PE X k tk) (hv : PE X v tv) (hr : PPs X pos ks vs trs) :
    PPs X pos (some k :: ks) (v :: vs) ((tk,tv) :: trs) := fun pins s σ H Q I h =>
  pairTrees_cons_walk (thn (hk pins s σ H _ I h) fun u s1 ⟨x,H1,I1,rx,q1⟩ => thn (hv pins s1 σ H1 _ I1 q1) fun w2 s2 ⟨y,H2,I2,ry,q2⟩ =>
    thn (hr pins s2 σ H2 _ I2 q2) fun ws s3 ⟨ps,H3,I3,rel,q3⟩ => ⟨(x,y) :: ps,H3,I3,.cons ⟨rx,ry⟩ rel,q3⟩)
def mergeK (kvs more : List (Key × V)) : List (Key × V) := more.foldl (fun acc kv => putK acc kv.1 kv.2) kvs
theorem KV.merge : ∀ {more : List (Key × V)} {rs : List (Key × Value)} {kvs : List (Key × V)} {vs : List (Key × Value)},KV more rs → KV kvs vs → KV (mergeK kvs more) (merged vs rs) := by
  intro more rs kvs vs r
  unfold KV at r
  induction r generalizing kvs vs with
  | nil => intro q; exact q
  | @cons p q ps qs h t ih =>
    intro r0
    have e : KV (putK kvs p.1 p.2) (stored vs q.1 q.2) := by
      have := r0.put p.1 h.2
      rw [← h.1]; exact this
    exact ih e
theorem length_mergeK : ∀ (more kvs : List (Key × V)),(mergeK kvs more).length ≤ kvs.length + more.length
  | [],kvs => by show kvs.length ≤ kvs.length + 0; omega
  | p :: r,kvs => by
    have h1 := length_mergeK r (putK kvs p.1 p.2)
    have h2 := length_putK kvs p.1 p.2
    show (mergeK (putK kvs p.1 p.2) r).length ≤ _
    rw [List.length_cons]; omega
theorem carries_of {P : Program} {w : World} : ∀ {kvs : List (Key × V)} {ws : List (Value × Value)},VV (kvs.map fun kv => (kV kv.1,kv.2)) ws → ∃ rs,Carries (mixKind P w) ws rs ∧ KV kvs rs
  | [],_,r => by rw [List.map_nil] at r; cases r; exact ⟨[],True.intro,.nil⟩
  | p :: kvs,_,r => by
    rw [List.map_cons] at r
    cases r with
    | @cons a b as bs h t =>
      obtain ⟨rs,c,q⟩ := carries_of (P := P) (w := w) t
      obtain ⟨b1,b2⟩ := b
      exact ⟨(p.1,b2) :: rs,⟨kV_is h.1,rfl,c⟩,.cons ⟨rfl,h.2⟩ q⟩
def tDisp (trs : List (TE × TE)) : TE := fun σ H Q => ∀ p,H p = none → tPairs trs σ (upd H p (.dK [])) fun ps H2 => H2 p = some (.dK []) ∧ ∃ kvs : List (Key × V),ps = kvs.map (fun kv => (kV kv.1,kv.2)) ∧ kvs.length ≤ 15 ∧ Q (.ref p) (upd H2 p (.dK (mergeK [] kvs)))
theorem pe_disp {X : Cx} {pos : Pos} {keys : List (Option Expr)} {values : List Expr} {trs : List (TE × TE)} (h : PPs X pos keys values trs) (hall : keys.all (·.isSome) = true) (hl : keys.length = values.length) (h0 : keys ≠ [])
    (h15 : keys.length ≤ 15) : PE X (.Dict keys values pos) (tDisp trs) := by
  intro pins s σ H Q I q
  have hn := I.hok.fresh (Nat.le_refl s.heap.objs.size)
  have I1 := I.laid (a := s.heap.objs.size) (o := .dK []) (h' := s.heap.push { cls := .type "dict",data := .dict #[] }) (t' := s.toks) (fun _ _ q => Heap.get?_push_of_some _ q) (Nat.le_refl _) (dk_empty s.heap I.big)
  refine wpAny_Dict_walk (knd := mixKind X.prog X.w) hall hl h0 h15 (thn (h pins _ σ _ _ I1 (q _ hn)) fun ws s2 ⟨ps,H2,I2,rel,e,kvs,ep,lk,q2⟩ => ?_)
  subst ep
  obtain ⟨rs,c,rk⟩ := carries_of (P := X.prog) (w := X.w) rel
  obtain ⟨z,hd,vs0,r0,dd⟩ := dk_of I2.hok e
  cases r0
  refine ⟨rs,c,dd,fun h' dd' hs => ⟨.ref s.heap.objs.size,_,?_,rfl,q2⟩⟩
  have hz : (mergeK [] kvs).length ≤ sizeLine := by
    have h1 := length_mergeK kvs []
    rw [List.length_nil] at h1
    rw [sizeLine_eq]; omega
  have he : ∃ q,h'.get? s.heap.objs.size = some q := let ⟨q,_,_,hq,_⟩ := dd'; ⟨q,hq⟩
  exact d_write I2 (by rw [e]; exact True.intro) hs he (dk_new hz hd (rk.merge .nil) dd')
section
variable {X : Cx} {pins : List (Addr × Obj)} {σ : St} {H : Hp} {s : Shared} {a : Addr} {y d : V} {u r : Value} {o : Option V} {A : Around} {E : Value → Shared → Prop}
end
section
variable {X : Cx} {o e f : Expr} {apos cpos : Pos} {td ty tx : TE}
end
section
variable {X : Cx} {pins : List (Addr × Obj)} {σ : St} {H : Hp} {s : Shared} {a : Addr} {kvs : List (Key × V)} {A : Around} {E : Value → Shared → Prop}
end
section
variable {X : Cx} {pins : List (Addr × Obj)} {σ : St} {H : Hp} {s : Shared} {a : Addr} {y : V} {u : Value} {A : Around} {E : Value → Shared → Prop}
end
end L2
namespace L2
open PySem PySem.Spec PyProof.Rows
section
variable {prog : Program} {w : World} {A : Around} {E : Value → Shared → Prop} {s : Shared}
end
section
variable {X : Cx} {o : Expr} {lo hi : Option Expr} {to : TE} {tl th : TO} {pos p2 : Pos}
end
end L2
namespace L2
open PySem PySem.Spec PyProof.Rows
def kD : Key → PyData
  | .inl i => .int i
  | .inr x => .str x
mutual
inductive Rq (H : Hp) : V → PyData → Prop
  | non : Rq H .non .none
  | bl (b : Bool) : Rq H (.bl b) (.bool b)
  | int (i : Int) : Rq H (.int i) (.int i)
  | str (x : Str) : Rq H (.str x) (.str x)
  | tup {p : Addr} {xs : List V} {ds : List PyData} : H p = some (.tup xs) → Rqs H xs ds → Rq H (.ref p) (.tuple ds)
  | lst {p : Addr} {xs : List V} {ds : List PyData} : H p = some (.lst xs) → Rqs H xs ds → Rq H (.ref p) (.list ds)
  | dic {p : Addr} {kvs : List (Key × V)} {r : List (PyData × PyData)} : H p = some (.dK kvs) → Rqk H kvs r → Rq H (.ref p) (.dict r)
inductive Rqs (H : Hp) : List V → List PyData → Prop
  | nil : Rqs H [] []
  | cons {x : V} {d : PyData} {xs : List V} {ds : List PyData} : Rq H x d → Rqs H xs ds → Rqs H (x :: xs) (d :: ds)
inductive Rqk (H : Hp) : List (Key × V) → List (PyData × PyData) → Prop
  | nil : Rqk H [] []
  | cons {k : Key} {x : V} {d : PyData} {kvs : List (Key × V)} {r : List (PyData × PyData)} : Rq H x d → Rqk H kvs r → Rqk H ((k,x) :: kvs) ((kD k,d) :: r)
end
theorem key_reads {h : Heap} {k : Key} {u : Value} (e : keyIs k u = true) : Reads h u (kD k) [] := by
  rcases keyIs_shape e with ⟨i,t,rfl,rfl⟩ | ⟨x,t,rfl,rfl⟩
  · exact .int i t
  · exact .str x t
mutual
theorem Rq.reads {P : Program} {w : World} {H : Hp} {h : Heap} (ok : HOk P w H h) : ∀ {v : V} {d : PyData} {u : Value},Rq H v d → RelV v u → ∃ as,Reads h u d as ∧ ∀ b ∈ as,H b ≠ none
  | _,_,_,.non,r => ⟨[],by rw [show _ = Value.none from r]; exact .none,fun b hb => nomatch hb⟩
  | _,_,_,.bl b,r => ⟨[],by rw [show _ = Value.bool b from r]; exact .bool b,fun b hb => nomatch hb⟩
  | _,_,_,.int i,r => by
    obtain ⟨t,rfl⟩ := r
    exact ⟨[],.int i t,fun b hb => nomatch hb⟩
  | _,_,_,.str x,r => by
    obtain ⟨t,rfl⟩ := r
    exact ⟨[],.str x t,fun b hb => nomatch hb⟩
  | _,_,_,.tup (p := p) e q,r => by
    have r : _ = Value.ref p := r
    subst r
    obtain ⟨z,its,rv,o,h1,h2,n,h3⟩ := ok p _ e
    obtain ⟨as,ra,ha⟩ := Rqs.reads ok q rv
    exact ⟨as,.tuple h1 h2 h3 (by simpa using ra),ha⟩
  | _,_,_,.lst (p := p) e q,r => by
    have r : _ = Value.ref p := r
    subst r
    obtain ⟨z,its,n,rv,h1⟩ := ok p _ e
    obtain ⟨as,ra,ha⟩ := Rqs.reads ok q rv
    refine ⟨p :: as,.list h1 rfl rfl (by simpa using ra),fun b hb => ?_⟩
    rcases List.mem_cons.mp hb with rfl | hb
    · rw [e]
      exact fun z => by cases z
    · exact ha b hb
  | _,_,_,.dic (p := p) e q,r => by
    have r : _ = Value.ref p := r
    subst r
    obtain ⟨z,hs,vs,kv,o,es,ep,h1,h2,h3,h4,h5,h6⟩ := ok p _ e
    obtain ⟨as,bs,ra,rb,hb⟩ := Rqk.reads ok q kv h5
    refine ⟨p :: as ++ bs,.dict h1 h2.1 h3 ra rb,fun b hb' => ?_⟩
    rcases List.mem_append.mp hb' with hb' | hb'
    · rcases List.mem_cons.mp hb' with rfl | hb'
      · rw [e]
        exact fun z => by cases z
      · exact hb b (.inl hb')
    · exact hb b (.inr hb')
theorem Rqs.reads {P : Program} {w : World} {H : Hp} {h : Heap} (ok : HOk P w H h) : ∀ {xs : List V} {ds : List PyData} {us : List Value},Rqs H xs ds → Vals xs us → ∃ as,ReadsAll h us ds as ∧ ∀ b ∈ as,H b ≠ none
  | _,_,_,.nil,r => by
    cases r
    exact ⟨[],.nil,fun b hb => nomatch hb⟩
  | _,_,_,.cons q qs,r => by
    cases r with
    | cons r1 r2 =>
      obtain ⟨as,ra,ha⟩ := Rq.reads ok q r1
      obtain ⟨bs,rb,hb⟩ := Rqs.reads ok qs r2
      exact ⟨as ++ bs,.cons ra rb,fun b h => (List.mem_append.mp h).elim (ha b) (hb b)⟩
theorem Rqk.reads {P : Program} {w : World} {H : Hp} {h : Heap} (ok : HOk P w H h) : ∀ {kvs : List (Key × V)} {r : List (PyData × PyData)} {vs : List (Key × Value)} {es : List DictEntry},Rqk H kvs r → KV kvs vs → Pairs (mixKind P w) es vs →
    ∃ as bs,ReadsAll h (es.map (·.key)) (r.map (·.1)) as ∧ ReadsAll h (es.map (·.val)) (r.map (·.2)) bs ∧ ∀ b,b ∈ as ∨ b ∈ bs → H b ≠ none
  | _,_,_,_,.nil,kv,ps => by
    cases kv
    cases ps
    exact ⟨[],[],.nil,.nil,fun b hb => by rcases hb with hb | hb <;> exact nomatch hb⟩
  | _,_,_,_,.cons q qs,kv,ps => by
    cases kv with
    | cons k1 k2 =>
      cases ps with
      | cons p1 p2 p3 =>
        obtain ⟨as,ra,ha⟩ := Rq.reads ok q (p2 ▸ k1.2)
        obtain ⟨a2,b2,r1,r2,hb⟩ := Rqk.reads ok qs k2 p3
        refine ⟨[] ++ a2,as ++ b2,.cons (key_reads (by have e1 : _ = _ := k1.1; dsimp only at e1; subst e1; exact p1)) r1,.cons ra r2,fun b h => ?_⟩
        rcases h with h | h
        · exact hb b (.inl h)
        · rcases List.mem_append.mp h with h | h
          · exact ha b h
          · exact hb b (.inr h)
end
mutual
theorem Rq.mono {H H' : Hp} (s : Same H H') : ∀ {v : V} {d : PyData},Rq H v d → Rq H' v d
  | _,_,.non => .non
  | _,_,.bl b => .bl b
  | _,_,.int i => .int i
  | _,_,.str x => .str x
  | _,_,.tup e q => .tup (s _ _ e) (Rqs.mono s q)
  | _,_,.lst e q => .lst (s _ _ e) (Rqs.mono s q)
  | _,_,.dic e q => .dic (s _ _ e) (Rqk.mono s q)
theorem Rqs.mono {H H' : Hp} (s : Same H H') : ∀ {xs : List V} {ds : List PyData},Rqs H xs ds → Rqs H' xs ds
  | _,_,.nil => .nil
  | _,_,.cons q qs => .cons (Rq.mono s q) (Rqs.mono s qs)
theorem Rqk.mono {H H' : Hp} (s : Same H H') : ∀ {kvs : List (Key × V)} {r : List (PyData × PyData)},Rqk H kvs r → Rqk H' kvs r
  | _,_,.nil => .nil
  | _,_,.cons q qs => .cons (Rq.mono s q) (Rqk.mono s qs)
end
def PyData.told : PyData → Str
  | .str x => x
  | d => d.shown
structure ShwOk (d : PyData) : Prop where
  ok : d.showable = true
  dp : d.depth ≤ 20
  sz : d.shown.length ≤ sizeLine
section
variable {X : Cx}
def rStrD : List V → Hp → VK → Prop := fun xs H Q => ∃ v d,xs = [v] ∧ Rq H v d ∧ ShwOk d ∧ Q (.str (PyData.told d)) H
theorem call_strD {o : Obj} (hsm : X.K.lookup sysModules = some o) (hg : X.A.guards = some []) (hu : X.A.units + 64 < cLine) : CallR X (.type "str") rStrD := by
  intro pins s σ H xs us Q I rs q
  obtain ⟨v,d,rfl,rq,sh,q⟩ := q
  obtain ⟨u,rfl,ru⟩ := vals1 rs
  have hH : H sysModules = none := (I.bs _ _ (I.mod.kin _ _ hsm)).2
  cases rq with
  | non =>
    rw [show u = Value.none from ru]
    exact P.str_of_none ⟨.str _,H,I.tok _,⟨_,rfl⟩,q⟩
  | bl b =>
    rw [show u = Value.bool b from ru]
    exact P.str_of_bool ⟨.str _,H,I.tok _,⟨_,rfl⟩,q⟩
  | int i =>
    obtain ⟨t,rfl⟩ := ru
    exact P.str_of_int (by simpa [PyData.showable] using sh.ok) ⟨.str _,H,I.tok _,⟨_,rfl⟩,q⟩
  | str x =>
    obtain ⟨t,rfl⟩ := ru
    exact P.str_of_str ⟨.str _,H,I,⟨_,rfl⟩,q⟩
  | tup e r =>
    obtain ⟨as,ra,ha⟩ := Rq.reads I.hok (.tup e r) ru
    have ru : u = _ := ru
    subst ru
    refine str_of_reads ra sh.ok (fun _ hm => ha _ hm hH) hg (by have := sh.dp; omega) (fun b o z => z) (fun h' u tk hk => ?_) sh.sz
    exact ⟨.str _,H,I.kept (t' := tk) hk,⟨_,rfl⟩,q⟩
  | lst e r =>
    obtain ⟨as,ra,ha⟩ := Rq.reads I.hok (.lst e r) ru
    have ru : u = _ := ru
    subst ru
    refine str_of_reads ra sh.ok (fun _ hm => ha _ hm hH) hg (by have := sh.dp; omega) (fun b o z => z) (fun h' u tk hk => ?_) sh.sz
    exact ⟨.str _,H,I.kept (t' := tk) hk,⟨_,rfl⟩,q⟩
  | dic e r =>
    obtain ⟨as,ra,ha⟩ := Rq.reads I.hok (.dic e r) ru
    have ru : u = _ := ru
    subst ru
    refine str_of_reads ra sh.ok (fun _ hm => ha _ hm hH) hg (by have := sh.dp; omega) (fun b o z => z) (fun h' u tk hk => ?_) sh.sz
    exact ⟨.str _,H,I.kept (t' := tk) hk,⟨_,rfl⟩,q⟩
def rCatTA : R2 := fun x y H Q => ∃ l b xs zs,x = .ref l ∧ y = .ref b ∧ H l = some (.tup xs) ∧ H b = some (.tup zs) ∧ (xs ≠ [] ∧ zs ≠ []) ∧ xs.length + zs.length ≤ sizeLine ∧ ∀ p H2,Same H H2 → H2 p = some (.tup (xs ++ zs)) → H p = none → Q (.ref p) H2
theorem op_catTA : OpR X (binaryOp .Add) rCatTA := by
  intro pins s σ H x y v u Q I rx ry h
  obtain ⟨l,b,xs,zs,rfl,rfl,hH,hB,⟨h1,h2⟩,hz,q⟩ := h
  cases rx
  cases ry
  obtain ⟨z,its,r,⟨⟨cls,dd,data,sl⟩,ho,hc,n,hd⟩⟩ := I.hok _ _ hH
  obtain ⟨z2,its2,r2,⟨⟨cls2,dd2,data2,sl2⟩,ho2,hc2,n2,hd2⟩⟩ := I.hok _ _ hB
  simp only at hc hd hc2 hd2
  subst hc hd hc2 hd2
  have l1 := r.length
  have l2 := r2.length
  have n1 : its ≠ [] := fun e => h1 (List.eq_nil_of_length_eq_zero (by rw [l1,e]; rfl))
  have n2' : its2 ≠ [] := fun e => h2 (List.eq_nil_of_length_eq_zero (by rw [l2,e]; rfl))
  have e : its.toArray ++ its2.toArray = (its ++ its2).toArray := by simp
  refine concat_meets ⟨_,ho,rfl⟩ ⟨_,ho2,rfl⟩ noFill_tuple_add seq_tuple_add PySem.F.slot_tuple_add PySem.F.entry_tuple_add (PySem.F.args_tuple_add_2 _ _)
    (tuple_addW2 l b its.toArray its2.toArray n n2 dd dd2 sl sl2 (by simpa using n1) (by simpa using n2') (by rw [List.size_toArray,List.size_toArray]; omega)) ⟨ho,ho2,?_⟩
  rw [e]
  have hf : H s.heap.objs.size = none := I.fresh
  refine ⟨.ref s.heap.objs.size,upd H s.heap.objs.size (.tup (xs ++ zs)),I.laid (t' := s.toks) (fun b u e => Heap.get?_push_of_some _ e) (Nat.le_refl _) ?_,rfl,q _ _ (Same.new hf) upd_same hf⟩
  exact ⟨by rw [List.length_append]; exact hz,its ++ its2,r.append r2,IsTup.new _ _⟩
end
end L2
namespace L2
open PySem PySem.Spec PyProof.Rows
section
variable {X : Cx}
end
end L2
namespace L2
open PySem PySem.Spec PyProof.Rows
section
variable {X : Cx}
theorem ps_try_asM {Cs : Addr → Prop} {n en : Str} {B : Addr} {np hpos pos : Pos} {body : List Stmt} {b₀ : Stmt} {suite : List Stmt} {tx : TX} {th : TS} {i : Nat} (stk : X.stack = X.env :: X.outer) (hfr : X.env.frame = some X.env.locals) (hb : PXs X body tx) (O : ExcC X.K X.mg n B) (hg : Gl X n)
    (hm : ∀ C,Cs C → PySem.W.exmOne X.K (.ref C) (.ref B) = some true) (hex : X.ex = []) (hN : X.N.Nodup) (hi : X.N[i]? = some en) (hk : X.env.kindOf en = some .local)
    (hh : ∀ e : Addr,PSs (X.inH e) (b₀ :: suite) th) (hdb : (n == ("__debug__" : Str)) = false := by decide) :
    PS X (.Try body [.ExceptHandler (some (.Name n np)) (some en) (b₀ :: suite) hpos] [] [] pos) (fun D σ H => tx (fun c σ' H' => ∃ C,c = .ref C ∧ Cs C ∧ ∀ e : Addr,H' e = none → th (D.drop i) (σ'.set i (some (.ref e))) (upd H' e (excO C e))) D σ H) := by
  intro pins s σ H D I h
  refine wpAny_Try_except (wpAny_mono (hb pins s σ H D _ I h) (fun f s1 q => ?_) fun ev s1 q => ?_)
  · cases f with
    | next => exact wpAny_execs_nil q
    | ret v => exact q
    | brk => exact q
    | cont => exact q
  · obtain ⟨s₁,σ₁,H₁,E1,I1,hx,hE⟩ := q
    obtain ⟨ea,t,cls,H',B',rfl,os,bare,un,hok,fl,big,q⟩ := hx
    obtain ⟨C,rfl,hC,rd⟩ := hE _ _ _ q
    exact caught_as (E1 := fun c o H'' => c = .ref C ∧ H'' = H') I1 stk hfr O hg (hm C hC) hex hN hi hk ⟨ea,t,_,H',B',rfl,os,bare,un,hok,fl,big,rfl,rfl⟩ (fun c o H'' z => by obtain ⟨rfl,rfl⟩ := z; exact ⟨rfl,rd⟩) hh hdb
def rIsEM (K : PySem.W.Frag) (Cs : Addr → Prop) : List V → Hp → VK → Prop := fun xs H Q => ∃ C,Cs C ∧ rIsE K C xs H Q
theorem call_isexcM {Cs : Addr → Prop} (h : ∀ C,Cs C → (∃ n,ExcC X.K X.mg n C) ∧ ExcF X.K C) : CallR X (.builtin "isinstance") (rIsEM X.K Cs) := by
  intro pins s σ H xs us Q I rs q
  obtain ⟨C,hC,q⟩ := q
  obtain ⟨⟨n,O⟩,f⟩ := h C hC
  exact call_isexc O f pins s σ H xs us Q I rs q
end
end L2
namespace L2
open PySem PySem.Spec PyProof.Rows
section
variable {X : Cx}
end
end L2
namespace L2
open PySem PySem.Spec PyProof.Rows
section
variable {M : Model} {A : Around} {E : Value → Shared → Prop} {s : Shared}
end
end L2
namespace L2
open PySem PySem.Spec PyProof.Rows
section
variable {P : Program} {w : World} {K : PySem.W.Frag} {mg : Str → Option Value} {base : Heap} {N : List Str} {qual : Str} {scope : Scope} {f : Addr} {cdv : Value} {A : Around} {outer : List Env} {s₀ : Shared} {H₀ : Hp} {E : XK}
end
end L2
namespace L2
open PySem PySem.Spec PyProof.Rows
section
variable {X : Cx} {scope : Scope} {cl : List (Str × Addr)} {x : Str} {fv : List (Str × Nat)} {elt iter : Expr} {px pos : Pos} {te : TE}
end
section
variable {P : Program} {w : World} {K : PySem.W.Frag} {mg : Str → Option Value} {base : Heap} {N : List Str} {qual : Str} {scope' : Scope} {f : Addr} {cdv : Value} {A : Around} {outer : List Env} {s₀ : Shared} {H₀ : Hp} {E : XK}
variable {scope : Scope} {cl : List (Str × Addr)} {x : Str} {fv : List (Str × Nat)} {elt iter : Expr} {px pos : Pos} {te : TE}
end
end L2
namespace L2
open PySem PySem.Spec PyProof.Rows
end L2
namespace Hd
open PySem PySem.W PySem.Spec L2
def live (o : Obj) : Bool := match o.data with
  | .freed => false
  | _ => true
def nums : Nat → List Obj → Frag
  | _,[] => []
  | n,a :: r => bif live a then (n,a) :: nums (n + 1) r else nums (n + 1) r
theorem nums_at : ∀ (l : List Obj) (n a : Nat) (o : Obj),(nums n l).lookup a = some o → n ≤ a ∧ l[a - n]? = some o ∧ live o = true
  | [],_,_,_,e => by cases e
  | x :: r,n,a,o,e => by
    have up : (nums (n + 1) r).lookup a = some o → n ≤ a ∧ (x :: r)[a - n]? = some o ∧ live o = true := fun e => by
      obtain ⟨h1,h2,h3⟩ := nums_at r (n + 1) a o e
      refine ⟨by omega,?_,h3⟩
      have : a - n = (a - (n + 1)) + 1 := by omega
      rw [this]
      exact h2
    unfold nums at e
    cases hl : live x with
    | false =>
      rw [hl] at e
      exact up e
    | true =>
      rw [hl,cond_true,List.lookup_cons] at e
      cases hb : a == n with
      | true =>
        rw [hb] at e
        have hb := beq_iff_eq.mp hb
        subst hb
        cases e
        exact ⟨Nat.le_refl _,by simp,hl⟩
      | false =>
        rw [hb] at e
        exact up e
def frag (h : Heap) : Frag := nums 0 h.objs.toList
theorem frag_in (h : Heap) : (frag h).In h := by
  intro a o e
  obtain ⟨_,q,hl⟩ := nums_at _ _ _ _ e
  have q : h.objs[a]? = some o := by simpa using q
  unfold Heap.get?
  rw [q]
  obtain ⟨c,d,dt,sl⟩ := o
  cases dt <;> first | rfl | cases hl
def fnFact (K : Frag) (x : Str) : Option (Arguments × List Stmt × Scope × Value) := match nsIn K mainGlobals x with
  | some (some (.ref f)) => (match K.lookup f with
    | some ⟨_,_,.func fd,_⟩ => (match fd.body,fd.closure with
      | .stmts b,[] => bif (fd.name == x && (fd.qualname == x && (Nat.beq fd.globals mainGlobals && (Nat.beq fd.builtins builtinsNs && codeIn K fd.code x)))) then some (fd.params,b,fd.scope,fd.defaults) else none
      | _,_ => none)
    | _ => none)
  | _ => none
theorem fnFact_spec {K : Frag} {x : Str} {a : Arguments} {b : List Stmt} {sc : Scope} {dv : Value} (e : fnFact K x = some (a,b,sc,dv)) :
    ∃ (f : Addr) (oc : Value) (od : Option Addr) (kV doc pm : Value) (an : Option Addr) (cdv ct : Value) (osl : Array (Option Value)),
      nsIn K mainGlobals x = some (some (.ref f)) ∧ K.lookup f = some ⟨oc,od,.func (fnOf x x a b sc dv kV doc pm an cdv ct),osl⟩ ∧ codeIn K cdv x = true ∧ keepIn K (.ref f) = true := by
  unfold fnFact at e
  split at e
  · rename_i f hf
    split at e
    · rename_i oc od fd osl hl
      split at e
      · rename_i b' hb hc
        cases hq : (fd.name == x && (fd.qualname == x && (Nat.beq fd.globals mainGlobals && (Nat.beq fd.builtins builtinsNs && codeIn K fd.code x)))) with
        | false => rw [hq] at e; cases e
        | true =>
          rw [hq] at e
          simp only [Bool.and_eq_true] at hq
          obtain ⟨h1,h2,h3,h4,h5⟩ := hq
          replace h1 := eq_of_beq h1
          replace h2 := eq_of_beq h2
          replace h3 := Nat.eq_of_beq_eq_true h3
          replace h4 := Nat.eq_of_beq_eq_true h4
          simp only [cond_true,Option.some.injEq,Prod.mk.injEq] at e
          obtain ⟨e1,e2,e3,e4⟩ := e
          obtain ⟨n,qn,ps,bd,s,gl,cl,df,kw,dc,pm,an,cd,ct,bl⟩ := fd
          simp only at h1 h2 h3 h4 h5 e1 e2 e3 e4 hb hc
          subst h1 h2 h3 h4 e1 e2 e3 e4 hb hc
          refine ⟨f,oc,od,kw,dc,pm,an,cd,ct,osl,hf,hl,h5,?_⟩
          unfold keepIn
          dsimp only
          rw [hl]
      · cases e
    · cases e
  · cases e
theorem df_of {K : Frag} {mg : Str → Option Value} {h : Heap} {x : Str} {st : Stmt} (X : K.In h) (G : h.Ns mainGlobals mg) (e : fnFact K x = some (defArgs st,defBody st,defScope st,.none)) : Df K mg x st := by
  obtain ⟨f,oc,od,kV,doc,pm,an,cdv,ct,osl,h1,h2,h3,h4⟩ := fnFact_spec e
  exact df_mk X G h1 h2 h3 h4
def bareV : Value → V
  | .none => .non
  | .bool b => .bl b
  | .int i _ => .int i
  | .str x _ => .str x
  | .bytes b _ => .byt b
  | .float b _ => .flt b
  | .ref a => .ref a
  | .type n => .ty n
  | _ => .ty "no plain value"
def plainV : Value → Bool
  | .ellipsis | .notImplemented | .builtin _ => false
  | _ => true
theorem bareV_rel : ∀ {v : Value},plainV v = true → RelV (bareV v) v
  | .none,_ => rfl
  | .bool _,_ => rfl
  | .int _ t,_ => ⟨t,rfl⟩
  | .str _ t,_ => ⟨t,rfl⟩
  | .bytes _ t,_ => ⟨t,rfl⟩
  | .float _ t,_ => ⟨t,rfl⟩
  | .ref _,_ => rfl
  | .type _,_ => rfl
  | .ellipsis,h => by cases h
  | .notImplemented,h => by cases h
  | .builtin _,h => by cases h
theorem vals_bare : ∀ {l : List Value},l.all plainV = true → Vals (l.map bareV) l
  | [],_ => .nil
  | _ :: _,h => by
    rw [List.all_cons,Bool.and_eq_true] at h
    exact .cons (bareV_rel h.1) (vals_bare h.2)
def seqAt (K : Frag) (v : Value) : Option (List V) := match v with
  | .ref a => (match K.lookup a with
    | some ⟨_,_,.seq its _,_⟩ => bif its.toList.all plainV then some (its.toList.map bareV) else none
    | _ => none)
  | _ => none
theorem seqAt_spec {K : Frag} {v : Value} {ds : List V} (e : seqAt K v = some ds) : ∃ (a : Addr) (o : Obj) (its : List Value) (n : Nat),v = .ref a ∧ K.lookup a = some o ∧ o.data = .seq its.toArray n ∧ Vals ds its := by
  unfold seqAt at e
  split at e
  · rename_i a
    split at e
    · rename_i oc od its n osl hl
      cases hq : its.toList.all plainV with
      | false => rw [hq] at e; cases e
      | true =>
        rw [hq] at e
        cases e
        exact ⟨a,_,its.toList,n,rfl,hl,rfl,vals_bare hq⟩
    · cases e
  · cases e
def fnFactD (K : Frag) (x : Str) : Option (Arguments × List Stmt × Scope × List V) := match fnFact K x with
  | some (a,b,s,dv) => (match seqAt K dv with
    | some ds => some (a,b,s,ds)
    | none => none)
  | none => none
theorem dfd_of {K : Frag} {mg : Str → Option Value} {h : Heap} {x : Str} {st : Stmt} {ds : List V} (X : K.In h) (G : h.Ns mainGlobals mg) (e : fnFactD K x = some (defArgs st,defBody st,defScope st,ds)) : DfD K mg x st ds := by
  unfold fnFactD at e
  split at e
  · rename_i a b s dv hf
    split at e
    · rename_i ds' hs
      simp only [Option.some.injEq,Prod.mk.injEq] at e
      obtain ⟨e1,e2,e3,e4⟩ := e
      subst e1 e2 e3 e4
      obtain ⟨f,oc,od,kV,doc,pm,an,cdv,ct,osl,h1,h2,h3,h4⟩ := fnFact_spec hf
      obtain ⟨T,oT,its,n,rfl,hl,hd,hv⟩ := seqAt_spec hs
      exact dfd_mk X G h1 h2 h3 h4 hl hd hv
    · cases e
  · cases e
def cls (K : Frag) (x : Str) : Addr := match nsIn K mainGlobals x with
  | some (some (.ref C)) => C
  | _ => 0
def excFact (K : Frag) (x : Str) : Bool := match nsIn K mainGlobals x with
  | some (some (.ref C)) => excIn K C [.type "ValueError",.type "Exception",.type "BaseException",.type "object"] "ValueError.__new__"
  | _ => false
theorem exc_of {K : Frag} {mg : Str → Option Value} {h : Heap} {x : Str} (X : K.In h) (G : h.Ns mainGlobals mg) (e : excFact K x = true) : ExcC K mg x (cls K x) := by
  unfold excFact at e
  split at e
  · rename_i C hC
    have : cls K x = C := by unfold cls; rw [hC]
    rw [this]
    exact exc_mk X G hC e
  · cases e
def tupFact (K : Frag) (x : Str) : Option (List V) := match nsIn K mainGlobals x with
  | some (some (.ref a)) => (match K.lookup a with
    | some ⟨.type "tuple",_,.seq its _,_⟩ => bif its.toList.all plainV then some (its.toList.map bareV) else none
    | _ => none)
  | _ => none
theorem tup_of {K : Frag} {x : Str} {ds : List V} (e : tupFact K x = some ds) : ∃ (a : Addr) (od : Option Addr) (its : List Value) (n : Nat) (osl : Array (Option Value)),nsIn K mainGlobals x = some (some (.ref a)) ∧ K.lookup a = some ⟨.type "tuple",od,.seq its.toArray n,osl⟩ ∧ Vals ds its := by
  unfold tupFact at e
  split at e
  · rename_i a ha
    split at e
    · rename_i od its n osl hl
      cases hq : its.toList.all plainV with
      | false => rw [hq] at e; cases e
      | true =>
        rw [hq] at e
        cases e
        exact ⟨a,od,its.toList,n,osl,ha,hl,vals_bare hq⟩
    · cases e
  · cases e
def noFact (K : Frag) (x : Str) : Bool := match nsIn K mainGlobals x with
  | some none => true
  | _ => false
theorem no_of {K : Frag} {x : Str} (e : noFact K x = true) : nsIn K mainGlobals x = some none := by
  unfold noFact at e
  split at e
  · rename_i h
    exact h
  · cases e
theorem at_map {α β : Type} {f g : α → β} {l : List α} (e : l.map f = l.map g) (i : Nat) {a : α} (h : l[i]? = some a) : f a = g a := by
  have q := congrArg (fun l : List β => l[i]?) e
  simp only [List.getElem?_map,h,Option.map_some,Option.some.injEq] at q
  exact q
theorem at_all {α : Type} {f : α → Bool} {l : List α} (e : l.all f = true) (i : Nat) {a : α} (h : l[i]? = some a) : f a = true :=
  List.all_eq_true.mp e a (List.mem_of_getElem? h)
theorem at_two {α : Type} {l m : List α} (e : l = m) (i : Nat) {a b : α} (h : l[i]? = some a) (h' : m[i]? = some b) : a = b := by
  subst e
  rw [h] at h'
  exact Option.some.inj h'
def hook {α : Type} (facts : Frag → α) (val : α) : Hook :=
  ⟨α,fun s => facts (frag s.heap),fun _ => val,fun _ h => ∃ K : Frag,K.In h ∧ facts K = val,fun _ s e => ⟨_,frag_in s.heap,e⟩,fun _ _ _ ⟨K,hi,e⟩ k => ⟨K,Frag.In.keeps hi k,e⟩⟩
theorem law_walk {l : OpenLaw} {k : Nat} {q : Program} {loose : List Str} {XP : (Str → Option Value) → Heap → Prop} {d : DefRec} {α : Type} {facts : Frag → α} {val : α} (hk : Room k callerA) (hn : l.most = some 63) (hdf : d.params.defaults = [])
    (F : ∀ (K : Frag),facts K = val → ∀ (w : World) (mg : Str → Option Value) (fa : Addr) (h : Heap),K.In h → h.Ns mainGlobals mg → mg d.name = some (.ref fa) →
      ∃ fd : FuncData,(∀ (s : Shared) (u : Value),BindsTo s fd ⟨[u],[]⟩ [("script",u)]) ∧ ∀ base : Heap,K.In base → base.Ns mainGlobals mg → FnOk l.prog w K mg base CX0 k fa fd ["script"] (spLaw K)) :
    WalkO q loose XP (Hook.says (hook facts val)) l.row.toRowW d [] (fun f vs => PySem.call f vs) := by
  intro w s₀ s₁ mg mb G Y
  obtain ⟨K,hin,hf⟩ := Y
  exact L2.law_walk (l := l) (k := k) (q := q) (loose := loose) (XP := XP) (YP := fun _ h => K.In h) (d := d) (K := fun _ => K) hk hn hdf (fun _ _ y => y) (fun w mg fa h => F K hf w mg fa h) w s₀ s₁ mg mb G hin
end Hd
namespace Hd
open PySem PySem.W PySem.Spec L2
theorem vals_sz {ds : List V} {its : List Value} (u : Vals ds its) (h : ds.length ≤ 100) : its.toArray.size ≤ 100 := by
  rw [List.size_toArray,← u.length]
  exact h
end Hd
namespace L2
open PySem PySem.Spec PyProof.Rows
structure DfA (K : PySem.W.Frag) (mg : Str → Option Value) (x y : Str) (st : Stmt) : Prop where
  ex : ∃ (f : Addr) (oc : Value) (od : Option Addr) (kV doc pm : Value) (an : Option Addr) (cdv ct : Value) (osl : Array (Option Value)),
    mg x = some (.ref f) ∧ K.lookup f = some ⟨oc,od,.func (PySem.W.fnOf y y (defArgs st) (defBody st) (defScope st) .none kV doc pm an cdv ct),osl⟩ ∧ PySem.W.codeIn K cdv y = true ∧ PySem.W.keepIn K (.ref f) = true
theorem dfa_mk {K : PySem.W.Frag} {mg : Str → Option Value} {h : Heap} {x y : Str} {st : Stmt} {f : Addr} {oc : Value} {od an : Option Addr} {osl : Array (Option Value)} {kV doc pm cdv ct : Value} (X : K.In h) (G : h.Ns mainGlobals mg)
    (a : PySem.W.nsIn K mainGlobals x = some (some (.ref f))) (l : K.lookup f = some ⟨oc,od,.func (PySem.W.fnOf y y (defArgs st) (defBody st) (defScope st) .none kV doc pm an cdv ct),osl⟩) (c : PySem.W.codeIn K cdv y = true) (k : PySem.W.keepIn K (.ref f) = true) :
    DfA K mg x y st := ⟨⟨f,oc,od,kV,doc,pm,an,cdv,ct,osl,PySem.W.mg_of X G a,l,c,k⟩⟩
theorem DfA.fn {P : Program} {w : World} {K : PySem.W.Frag} {mg : Str → Option Value} {base : Heap} {x y : Str} {st : Stmt} {N ps : List Str} {k : Nat} {sp : Sp} (D : DfA K mg x y st) (S : FnScope N ps (defScope st))
    (hbind : ∀ (kV doc pm : Value) (an : Option Addr) (cdv ct : Value) (us : List Value),us.length = ps.length → bindArgs (PySem.W.fnOf y y (defArgs st) (defBody st) (defScope st) .none kV doc pm an cdv ct) ⟨us,[]⟩ = pure (ps.zip us))
    (len : ∀ vs H Q E,sp vs H Q E → vs.length = ps.length)
    (hbody : ∀ (f : Addr) (cdv : Value) (A : Around) (outer : List Env) (s : Shared) (H : Hp) (vs : List V) (Q : VK) (E : XK),Room k (A.deeper (envOfC y (defScope st) s.heap.objs.size f cdv)) → sp vs H Q E →
      ∃ t,PSs (cxOf CX0 P w K mg base N y (defScope st) f cdv A outer s H E).nox (defBody st) t ∧ t { nx := fun _ H' => Q .non H',rt := Q } (start N vs) H) : Fn P w K mg base x ps (k + 1) sp := by
  obtain ⟨f,oc,od,kV,doc,pm,an,cdv,ct,osl,hm,lk,hcd,hk⟩ := D.ex
  refine ⟨⟨f,_,_,hm,hk,hbind kV doc pm an cdv ct,⟨lk,rfl⟩,fn_of lk hcd S len fun A outer s H vs Q E hr hsp => ?_⟩⟩
  obtain ⟨t,h,q⟩ := hbody f cdv A outer s H vs Q E hr hsp
  exact ⟨t,h.nox,q⟩
end L2
namespace Hd
open PySem PySem.W PySem.Spec L2
theorem pair2 {α β : Type _} {a a' : α} {b b' : β} (h : a = a') (g : b = b') : (a,b) = (a',b') := by rw [h,g]
def fnFactA (K : Frag) (x y : Str) : Option (Arguments × List Stmt × Scope × Value) := match nsIn K mainGlobals x with
  | some (some (.ref f)) => (match K.lookup f with
    | some ⟨_,_,.func fd,_⟩ => (match fd.body,fd.closure with
      | .stmts b,[] => bif (fd.name == y && (fd.qualname == y && (Nat.beq fd.globals mainGlobals && (Nat.beq fd.builtins builtinsNs && codeIn K fd.code y)))) then some (fd.params,b,fd.scope,fd.defaults) else none
      | _,_ => none)
    | _ => none)
  | _ => none
theorem fnFactA_spec {K : Frag} {x y : Str} {a : Arguments} {b : List Stmt} {sc : Scope} {dv : Value} (e : fnFactA K x y = some (a,b,sc,dv)) :
    ∃ (f : Addr) (oc : Value) (od : Option Addr) (kV doc pm : Value) (an : Option Addr) (cdv ct : Value) (osl : Array (Option Value)),
      nsIn K mainGlobals x = some (some (.ref f)) ∧ K.lookup f = some ⟨oc,od,.func (fnOf y y a b sc dv kV doc pm an cdv ct),osl⟩ ∧ codeIn K cdv y = true ∧ keepIn K (.ref f) = true := by
  unfold fnFactA at e
  split at e
  · rename_i f hf
    split at e
    · rename_i oc od fd osl hl
      split at e
      · rename_i b' hb hc
        cases hq : (fd.name == y && (fd.qualname == y && (Nat.beq fd.globals mainGlobals && (Nat.beq fd.builtins builtinsNs && codeIn K fd.code y)))) with
        | false => rw [hq] at e; cases e
        | true =>
          rw [hq] at e
          simp only [Bool.and_eq_true] at hq
          obtain ⟨h1,h2,h3,h4,h5⟩ := hq
          replace h1 := eq_of_beq h1
          replace h2 := eq_of_beq h2
          replace h3 := Nat.eq_of_beq_eq_true h3
          replace h4 := Nat.eq_of_beq_eq_true h4
          simp only [cond_true,Option.some.injEq,Prod.mk.injEq] at e
          obtain ⟨e1,e2,e3,e4⟩ := e
          obtain ⟨n,qn,ps,bd,s,gl,cl,df,kw,dc,pm,an,cd,ct,bl⟩ := fd
          simp only at h1 h2 h3 h4 h5 e1 e2 e3 e4 hb hc
          subst h1 h2 h3 h4 e1 e2 e3 e4 hb hc
          refine ⟨f,oc,od,kw,dc,pm,an,cd,ct,osl,hf,hl,h5,?_⟩
          unfold keepIn
          dsimp only
          rw [hl]
      · cases e
    · cases e
  · cases e
theorem dfa_of {K : Frag} {mg : Str → Option Value} {h : Heap} {x y : Str} {st : Stmt} (X : K.In h) (G : h.Ns mainGlobals mg) (e : fnFactA K x y = some (defArgs st,defBody st,defScope st,.none)) : DfA K mg x y st := by
  obtain ⟨f,oc,od,kV,doc,pm,an,cdv,ct,osl,h1,h2,h3,h4⟩ := fnFactA_spec e
  exact dfa_mk X G h1 h2 h3 h4
end Hd
namespace Hd
open PySem PySem.W PySem.Spec L2
end Hd
local macro_rules | `(tactic| walk_at "bt") => `(tactic| first
  | assumption
  | (apply L2.bits_mul <;> walk_at "bt")
  | (apply L2.bits_add2 <;> walk_at "bt")
  | (apply L2.bits_sub2 <;> walk_at "bt")
  | (apply L2.bits_neg; walk_at "bt")
  | (apply L2.bits_abs; walk_at "bt")
  | exact L2.bits_lit)
local macro_rules | `(tactic| walk_at "bl") => `(tactic| (apply L2.bits_of_le; (walk_at "bt"); decide))
local macro_rules | `(tactic| walk_at "cm") => `(tactic| first
  | exact L2.CM.l ⟨by decide,by decide⟩
  | exact L2.CM.r ⟨by decide,by decide⟩
  | (apply L2.CM.of; (walk_at "bt"); (walk_at "bt"); decide))
local macro_rules | `(tactic| walk_at "at") => `(tactic| first
  | assumption
  | exact L2.upd_same
  | (refine L2.Same.at (by assumption) ?_; walk_at "at")
  | (refine L2.SameT.at (by assumption) ?_; walk_at "at"))
local macro_rules | `(tactic| walk_at "sm") => `(tactic| first
  | assumption
  | exact L2.Same.rfl'
  | (refine L2.Same.trans ?_ (by assumption); walk_at "sm"))
local macro_rules | `(tactic| walk_at "kn") => `(tactic| first
  | assumption
  | exact ⟨_,.int _⟩ | exact ⟨_,.bl _⟩ | exact ⟨_,.str _⟩ | exact ⟨_,.non⟩
  | exact ⟨_,.tup (by walk_at "at")⟩ | exact ⟨_,.lst (by walk_at "at")⟩ | exact ⟨_,.dict (by walk_at "at")⟩)
local macro_rules | `(tactic| walk_at "nice") => `(tactic| first
  | exact L2.nice_int | exact L2.nice_bool | exact L2.nice_tuple | exact L2.nice_list | exact L2.nice_str)
local macro_rules | `(tactic| walk_at "th") => `(tactic| first
  | assumption
  | exact Sp1.th_flat .non (fun p e => nomatch e) | exact Sp1.th_flat (.int _) (fun p e => nomatch e) | exact Sp1.th_flat (.bl _) (fun p e => nomatch e) | exact Sp1.th_flat (.str _) (fun p e => nomatch e)
  | exact Sp1.th_lst (by walk_at "at")
  | (refine' Sp1.th_tup ?hat ?hkn; (case hat => walk_at "at"); (case hkn => (simp only [List.mem_cons,List.not_mem_nil,or_false,forall_eq_or_imp,forall_eq,false_imp_iff,implies_true]; (try (first | (walk_at "kn") | (repeat' apply And.intro) <;> walk_at "kn")))))
  )
local macro_rules | `(tactic| walk_at "r1") => `(tactic| first
  | (refine ⟨_,rfl,?_⟩)
  | (refine ⟨_,_,rfl,rfl,?_⟩)
  | (refine' ⟨_,_,_,_,rfl,rfl,L2.SqT.of ?hat,?hix,?nxt⟩; (case hat => walk_at "at"); (case hix => exact rfl))
  | (refine' ⟨_,_,_,_,rfl,rfl,L2.SqL.of ?hat,?hix,?nxt⟩; (case hat => walk_at "at"); (case hix => exact rfl))
  | (refine ⟨by walk_at "cm",?_⟩)
  | (refine ⟨(by show (0 : Int) < _; decide),?_⟩)
  | (refine ⟨⟨by decide,by decide⟩,?_⟩)
  | (refine ⟨⟨by decide,by decide,by decide⟩,?_⟩)
  | (refine ⟨Sp1.sz (by simp),fun _ _ _ _ _ => ?_⟩)
  | (refine ⟨Sp1.sz (by simp),L2.alloc fun _ _ _ _ => ?_⟩)
  | (refine' ⟨_,_,_,_,rfl,rfl,?hat,?hbt,Sp1.sz ?hsz,fun _ _ _ _ _ => ?nxt⟩; (case hat => walk_at "at"); (case hbt => walk_at "at"); (case hsz => simp))
  | (refine' ⟨_,_,_,_,rfl,rfl,?hat,?hbt,Sp1.sz ?hsz,L2.alloc fun _ _ _ _ => ?nxt⟩; (case hat => walk_at "at"); (case hbt => walk_at "at"); (case hsz => simp))
  | (refine' ⟨_,_,rfl,.inl (L2.SqL.of ?hat),?nxt⟩; (case hat => walk_at "at"))
  | (refine' ⟨_,_,rfl,.inr (L2.SqT.of ?hat),?nxt⟩; (case hat => walk_at "at"))
  | (refine' L2.alloc fun _ _ _ _ => ?nxt))
local macro_rules | `(tactic| walk_at "rd") => `(tactic| repeat (walk_at "r1"))
namespace K18
open PySem PySem.Spec L2 Mth Sp1 Sp2 Sp3 Sp7 Dr Wk Fnc
def top (i : Nat) : Stmt := PySem.Challenge.pw_oneleash_k18_what_is_none.main.body.getD i (.Pass ⟨0,0,0,0⟩)
def hNames0 : List (Str × Nat) := [(Str.ofString "is_whole",11),(Str.ofString "common_divisor",12),(Str.ofString "less",18),(Str.ofString "floor_of",19),(Str.ofString "number_of_least",20),(Str.ofString "number_of_greatest",21),(Str.ofString "is_ratio",22),(Str.ofString "last_of",24),(Str.ofString "is_place",26),(Str.ofString "is_pair",28),(Str.ofString "are_pairs",29),(Str.ofString "share_a_stretch",32),(Str.ofString "square_of",36),(Str.ofString "look_at_way",41),(Str.ofString "has_whole_places",60)]
def hNames1 : List (Str × Nat) := [(Str.ofString "measured_squares",70),(Str.ofString "_law_cell_at",73),(Str.ofString "_law_folded",74),(Str.ofString "_law_begun",75),(Str.ofString "_law_take",76),(Str.ofString "_law_wide",77),(Str.ofString "_law_drawn_line",78),(Str.ofString "_law_moved",79),(Str.ofString "_law_drawn_other",80),(Str.ofString "_law_lines",81),(Str.ofString "_law_divisor",82),(Str.ofString "_law_ratio",83),(Str.ofString "_law_below",84),(Str.ofString "_law_lesser",85),(Str.ofString "_law_greater",86)]
def hNames2 : List (Str × Nat) := [(Str.ofString "_law_spot_on",87),(Str.ofString "_law_any",88),(Str.ofString "_law_ahead",89),(Str.ofString "_law_home",90),(Str.ofString "_law_drawn_walk",91),(Str.ofString "_law_down",92),(Str.ofString "_law_over",93),(Str.ofString "_law_next",94),(Str.ofString "_law_ended",95),(Str.ofString "_law_drawn_fence",96),(Str.ofString "_law_drawn_way",97),(Str.ofString "_law_odd",98),(Str.ofString "_law_none",99),(Str.ofString "_law_refused",100),(Str.ofString "law",101)]
def hNamesD : List (Str × Nat × List V) := [(Str.ofString "ratio",13,[.int 1]),(Str.ofString "is_walk",52,[.str "on"]),(Str.ofString "walk_square",53,[.str "on"]),(Str.ofString "is_fence",66,[.str "on"]),(Str.ofString "fence_square",71,[.str "on"])]
def hExc : List Str := [Str.ofString "NoRatio",Str.ofString "NoWay",Str.ofString "NoWalk",Str.ofString "LeashError",Str.ofString "NoFence",Str.ofString "NoLine",Str.ofString "NoPlace",Str.ofString "NoSquare",Str.ofString "NoText"]
def hNo : List Str := [Str.ofString "ValueError",Str.ofString "abs",Str.ofString "all",Str.ofString "bool",Str.ofString "enumerate",Str.ofString "int",Str.ofString "isinstance",Str.ofString "len",Str.ofString "list",Str.ofString "max",Str.ofString "min",Str.ofString "range",Str.ofString "reversed",Str.ofString "str",Str.ofString "tuple",Str.ofString "zip"]
def hTup : List (Str × List V) := [(Str.ofString "WAYS",[.str "on",.str "part",.str "free",.str "hops"])]
def hEq0 (K : PySem.W.Frag) : List (Option Bool) := [PySem.W.exmOne K (.ref (Hd.cls K "NoWalk")) (.ref (Hd.cls K "LeashError")),PySem.W.kitOne K (.ref (Hd.cls K "NoWalk")) (.ref (Hd.cls K "NoFence")),PySem.W.kitOne K (.ref (Hd.cls K "NoWalk")) (.ref (Hd.cls K "NoWalk")),PySem.W.kitOne K (.ref (Hd.cls K "NoWalk")) (.type "ValueError"),PySem.W.kitAny K (.ref (Hd.cls K "NoWalk")) [(.ref (Hd.cls K "NoLine")),(.ref (Hd.cls K "NoPlace")),(.ref (Hd.cls K "NoRatio")),(.ref (Hd.cls K "NoSquare")),(.ref (Hd.cls K "NoText")),(.ref (Hd.cls K "NoWay"))],PySem.W.exmOne K (.ref (Hd.cls K "NoFence")) (.ref (Hd.cls K "LeashError")),PySem.W.kitOne K (.ref (Hd.cls K "NoFence")) (.ref (Hd.cls K "NoFence")),PySem.W.kitOne K (.ref (Hd.cls K "NoFence")) (.ref (Hd.cls K "NoWalk")),PySem.W.kitOne K (.ref (Hd.cls K "NoFence")) (.type "ValueError"),PySem.W.kitAny K (.ref (Hd.cls K "NoFence")) [(.ref (Hd.cls K "NoLine")),(.ref (Hd.cls K "NoPlace")),(.ref (Hd.cls K "NoRatio")),(.ref (Hd.cls K "NoSquare")),(.ref (Hd.cls K "NoText")),(.ref (Hd.cls K "NoWay"))]]
def hVal0 : List (Option Bool) := [some true,some false,some true,some true,some false,some true,some true,some false,some true,some false]
def hEq1 (K : PySem.W.Frag) : List (Option (Option Value)) := [PySem.W.findIn K (.ref (Hd.cls K "NoWalk")) "__getattribute__",PySem.W.findIn K (.ref (Hd.cls K "NoWalk")) "__getattr__",PySem.W.findIn K (.ref (Hd.cls K "NoWalk")) "__class__",PySem.W.findIn K (.ref (Hd.cls K "NoFence")) "__getattribute__",PySem.W.findIn K (.ref (Hd.cls K "NoFence")) "__getattr__",PySem.W.findIn K (.ref (Hd.cls K "NoFence")) "__class__"]
def hVal1 : List (Option (Option Value)) := [some (some (.builtin "BaseException.__getattribute__")),some none,some (some (.builtin "object.__class__")),some (some (.builtin "BaseException.__getattribute__")),some none,some (some (.builtin "object.__class__"))]
def hEq2 (K : PySem.W.Frag) : List (Bool) := [(K.lookup sysModules).isSome]
def hVal2 : List (Bool) := [true]
def hNamesA : List (Str × Str × Nat) := [(Str.ofString "has_right_ends_walks",Str.ofString "has_right_ends",43),(Str.ofString "has_right_steps_walks",Str.ofString "has_right_steps",50),(Str.ofString "has_right_ends_fences",Str.ofString "has_right_ends",55),(Str.ofString "has_right_steps_fences",Str.ofString "has_right_steps",64)]
def hF0 (K : PySem.W.Frag) : List (Option (Arguments × List Stmt × Scope × Value)) := hNames0.map (fun p => Hd.fnFact K p.1)
def hG0 : List (Option (Arguments × List Stmt × Scope × Value)) := hNames0.map (fun p => some (defArgs (top p.2),defBody (top p.2),defScope (top p.2),.none))
def hF1 (K : PySem.W.Frag) : List (Option (Arguments × List Stmt × Scope × Value)) := hNames1.map (fun p => Hd.fnFact K p.1)
def hG1 : List (Option (Arguments × List Stmt × Scope × Value)) := hNames1.map (fun p => some (defArgs (top p.2),defBody (top p.2),defScope (top p.2),.none))
def hF2 (K : PySem.W.Frag) : List (Option (Arguments × List Stmt × Scope × Value)) := hNames2.map (fun p => Hd.fnFact K p.1)
def hG2 : List (Option (Arguments × List Stmt × Scope × Value)) := hNames2.map (fun p => some (defArgs (top p.2),defBody (top p.2),defScope (top p.2),.none))
def hF3 (K : PySem.W.Frag) : List (Option (Arguments × List Stmt × Scope × List V)) × Bool × Bool × List (Option (List V)) × List (Option (Arguments × List Stmt × Scope × Value)) × List (Option Bool) × List (Option (Option Value)) × List (Bool) := (hNamesD.map (fun p => Hd.fnFactD K p.1),hExc.all (Hd.excFact K),hNo.all (Hd.noFact K),hTup.map (fun p => Hd.tupFact K p.1),hNamesA.map (fun p => Hd.fnFactA K p.1 p.2.1),hEq0 K,hEq1 K,hEq2 K)
def hG3 : List (Option (Arguments × List Stmt × Scope × List V)) × Bool × Bool × List (Option (List V)) × List (Option (Arguments × List Stmt × Scope × Value)) × List (Option Bool) × List (Option (Option Value)) × List (Bool) := (hNamesD.map (fun p => some (defArgs (top p.2.1),defBody (top p.2.1),defScope (top p.2.1),p.2.2)),true,true,hTup.map (fun p => some p.2),hNamesA.map (fun p => some (defArgs (top p.2.2),defBody (top p.2.2),defScope (top p.2.2),.none)),hVal0,hVal1,hVal2)
def hFacts (K : PySem.W.Frag) : (List (Option (Arguments × List Stmt × Scope × Value))) × (List (Option (Arguments × List Stmt × Scope × Value))) × (List (Option (Arguments × List Stmt × Scope × Value))) × (List (Option (Arguments × List Stmt × Scope × List V)) × Bool × Bool × List (Option (List V)) × List (Option (Arguments × List Stmt × Scope × Value)) × List (Option Bool) × List (Option (Option Value)) × List (Bool)) := (hF0 K,hF1 K,hF2 K,hF3 K)
def hGood : (List (Option (Arguments × List Stmt × Scope × Value))) × (List (Option (Arguments × List Stmt × Scope × Value))) × (List (Option (Arguments × List Stmt × Scope × Value))) × (List (Option (Arguments × List Stmt × Scope × List V)) × Bool × Bool × List (Option (List V)) × List (Option (Arguments × List Stmt × Scope × Value)) × List (Option Bool) × List (Option (Option Value)) × List (Bool)) := (hG0,hG1,hG2,hG3)
def hView : Program := PySem.W.view PySem.Challenge.pw_oneleash_k18_what_is_none [101]
def hLoose : List Str := [Str.ofString "LeashError",Str.ofString "NoRatio",Str.ofString "NoLine",Str.ofString "NoPlace",Str.ofString "NoWay",Str.ofString "NoWalk",Str.ofString "NoFence",Str.ofString "NoSquare",Str.ofString "NoText",Str.ofString "is_whole",Str.ofString "common_divisor",Str.ofString "ratio",Str.ofString "plus",Str.ofString "minus",Str.ofString "times",Str.ofString "over",Str.ofString "less",Str.ofString "floor_of",Str.ofString "number_of_least",Str.ofString "number_of_greatest",Str.ofString "is_ratio",Str.ofString "last_of",Str.ofString "is_place",Str.ofString "look_at_place",Str.ofString "is_pair",Str.ofString "are_pairs",Str.ofString "number_at",Str.ofString "point_at",Str.ofString "share_a_stretch",Str.ofString "step_from",Str.ofString "inner_product",Str.ofString "square_between",Str.ofString "square_of",Str.ofString "nearest_part",Str.ofString "least_along",Str.ofString "WAYS",Str.ofString "look_at_way",Str.ofString "has_right_ends",Str.ofString "has_right_ends_walks",Str.ofString "goes_on",Str.ofString "goes_freely",Str.ofString "hops",Str.ofString "may_step",Str.ofString "may_step_walks",Str.ofString "has_right_steps",Str.ofString "has_right_steps_walks",Str.ofString "is_walk",Str.ofString "walk_square",Str.ofString "has_right_ends_fences",Str.ofString "steps_back",Str.ofString "keeps_corner",Str.ofString "slides",Str.ofString "has_whole_places",Str.ofString "hops_aside",Str.ofString "may_step_fences",Str.ofString "has_right_steps_fences",Str.ofString "is_fence",Str.ofString "is_measured_between",Str.ofString "least_between",Str.ofString "slide_square",Str.ofString "measured_squares",Str.ofString "fence_square",Str.ofString "_law_cell_at",Str.ofString "_law_folded",Str.ofString "_law_begun",Str.ofString "_law_take",Str.ofString "_law_wide",Str.ofString "_law_drawn_line",Str.ofString "_law_moved",Str.ofString "_law_drawn_other",Str.ofString "_law_lines",Str.ofString "_law_divisor",Str.ofString "_law_ratio",Str.ofString "_law_below",Str.ofString "_law_lesser",Str.ofString "_law_greater",Str.ofString "_law_spot_on",Str.ofString "_law_any",Str.ofString "_law_ahead",Str.ofString "_law_home",Str.ofString "_law_drawn_walk",Str.ofString "_law_down",Str.ofString "_law_over",Str.ofString "_law_next",Str.ofString "_law_ended",Str.ofString "_law_drawn_fence",Str.ofString "_law_drawn_way",Str.ofString "_law_odd",Str.ofString "_law_none",Str.ofString "_law_refused"]
noncomputable def hRunS (w : World) := (PySem.W.openEnds treeTable PySem.Challenge.pw_oneleash_k18_what_is_none w 100000).map (fun s => (PySem.W.openSeen hView hLoose (importedModules PySem.Challenge.pw_oneleash_k18_what_is_none.main.body) (fun _ => true) true s,hF3 (Hd.frag s.heap)))
noncomputable def hEndS := some (PySem.W.openGood hView hLoose,hG3)
theorem hRunS_self : @hRunS = @hRunS := rfl
theorem hEndS_self : @hEndS = @hEndS := rfl
set_option maxHeartbeats 0 in
lay_quick K18.hRunS K18.hEndS
name_quick hRunSQ for K18.hRunS by K18.hRunS_self
name_quick hEndSQ for K18.hEndS by K18.hEndS_self
set_option maxHeartbeats 0 in
theorem hQuickS (w : World) : PySem.W.Fast.hRunSQ w = PySem.W.Fast.hEndSQ := by kernel_rfl
theorem hOneS (w : World) : hRunS w = hEndS := (congrFun PySem.W.Fast.hRunSQ_eq w).trans ((hQuickS w).trans PySem.W.Fast.hEndSQ_eq.symm)
noncomputable def hRun0 (w : World) := (PySem.W.openEnds treeTable PySem.Challenge.pw_oneleash_k18_what_is_none w 100000).map (fun s => hF0 (Hd.frag s.heap))
noncomputable def hEnd0 := some (hG0)
theorem hRun0_self : @hRun0 = @hRun0 := rfl
theorem hEnd0_self : @hEnd0 = @hEnd0 := rfl
set_option maxHeartbeats 0 in
lay_quick K18.hRun0 K18.hEnd0
name_quick hRun0Q for K18.hRun0 by K18.hRun0_self
name_quick hEnd0Q for K18.hEnd0 by K18.hEnd0_self
set_option maxHeartbeats 0 in
theorem hQuick0 (w : World) : PySem.W.Fast.hRun0Q w = PySem.W.Fast.hEnd0Q := by kernel_rfl
theorem hOne0 (w : World) : hRun0 w = hEnd0 := (congrFun PySem.W.Fast.hRun0Q_eq w).trans ((hQuick0 w).trans PySem.W.Fast.hEnd0Q_eq.symm)
noncomputable def hRun1 (w : World) := (PySem.W.openEnds treeTable PySem.Challenge.pw_oneleash_k18_what_is_none w 100000).map (fun s => hF1 (Hd.frag s.heap))
noncomputable def hEnd1 := some (hG1)
theorem hRun1_self : @hRun1 = @hRun1 := rfl
theorem hEnd1_self : @hEnd1 = @hEnd1 := rfl
set_option maxHeartbeats 0 in
lay_quick K18.hRun1 K18.hEnd1
name_quick hRun1Q for K18.hRun1 by K18.hRun1_self
name_quick hEnd1Q for K18.hEnd1 by K18.hEnd1_self
set_option maxHeartbeats 0 in
theorem hQuick1 (w : World) : PySem.W.Fast.hRun1Q w = PySem.W.Fast.hEnd1Q := by kernel_rfl
theorem hOne1 (w : World) : hRun1 w = hEnd1 := (congrFun PySem.W.Fast.hRun1Q_eq w).trans ((hQuick1 w).trans PySem.W.Fast.hEnd1Q_eq.symm)
noncomputable def hRun2 (w : World) := (PySem.W.openEnds treeTable PySem.Challenge.pw_oneleash_k18_what_is_none w 100000).map (fun s => hF2 (Hd.frag s.heap))
noncomputable def hEnd2 := some (hG2)
theorem hRun2_self : @hRun2 = @hRun2 := rfl
theorem hEnd2_self : @hEnd2 = @hEnd2 := rfl
set_option maxHeartbeats 0 in
lay_quick K18.hRun2 K18.hEnd2
name_quick hRun2Q for K18.hRun2 by K18.hRun2_self
name_quick hEnd2Q for K18.hEnd2 by K18.hEnd2_self
set_option maxHeartbeats 0 in
theorem hQuick2 (w : World) : PySem.W.Fast.hRun2Q w = PySem.W.Fast.hEnd2Q := by kernel_rfl
theorem hOne2 (w : World) : hRun2 w = hEnd2 := (congrFun PySem.W.Fast.hRun2Q_eq w).trans ((hQuick2 w).trans PySem.W.Fast.hEnd2Q_eq.symm)
theorem hAll (w : World) : (PySem.W.openEnds treeTable PySem.Challenge.pw_oneleash_k18_what_is_none w 100000).map (fun s => (PySem.W.openSeen hView hLoose (importedModules PySem.Challenge.pw_oneleash_k18_what_is_none.main.body) (fun _ => true) true s,hFacts (Hd.frag s.heap))) = some (PySem.W.openGood hView hLoose,hGood) := by
  have rS : (PySem.W.openEnds treeTable PySem.Challenge.pw_oneleash_k18_what_is_none w 100000).map (fun s => (PySem.W.openSeen hView hLoose (importedModules PySem.Challenge.pw_oneleash_k18_what_is_none.main.body) (fun _ => true) true s,hF3 (Hd.frag s.heap))) = some (PySem.W.openGood hView hLoose,hG3) := hOneS w
  have r0 : (PySem.W.openEnds treeTable PySem.Challenge.pw_oneleash_k18_what_is_none w 100000).map (fun s => hF0 (Hd.frag s.heap)) = some (hG0) := hOne0 w
  have r1 : (PySem.W.openEnds treeTable PySem.Challenge.pw_oneleash_k18_what_is_none w 100000).map (fun s => hF1 (Hd.frag s.heap)) = some (hG1) := hOne1 w
  have r2 : (PySem.W.openEnds treeTable PySem.Challenge.pw_oneleash_k18_what_is_none w 100000).map (fun s => hF2 (Hd.frag s.heap)) = some (hG2) := hOne2 w
  skip
  generalize (PySem.W.openEnds treeTable PySem.Challenge.pw_oneleash_k18_what_is_none w 100000) = x at *
  cases x with
  | none => cases rS
  | some s =>
    have qS := Option.some.inj rS
    have q0 := Option.some.inj r0
    have q1 := Option.some.inj r1
    have q2 := Option.some.inj r2
    show some (PySem.W.openSeen hView hLoose (importedModules PySem.Challenge.pw_oneleash_k18_what_is_none.main.body) (fun _ => true) true s,hFacts (Hd.frag s.heap)) = _
    unfold hFacts hGood
    have z := congrArg Prod.fst qS
    have q3 := (congrArg Prod.snd qS)
    exact congrArg some (Hd.pair2 z (Hd.pair2 q0 (Hd.pair2 q1 (Hd.pair2 q2 q3))))
structure Txt (mg : Str → Option Value) : Prop where
  z_ValueError : mg "ValueError" = none
  z_abs : mg "abs" = none
  z_all : mg "all" = none
  z_bool : mg "bool" = none
  z_enumerate : mg "enumerate" = none
  z_int : mg "int" = none
  z_isinstance : mg "isinstance" = none
  z_len : mg "len" = none
  z_list : mg "list" = none
  z_max : mg "max" = none
  z_min : mg "min" = none
  z_range : mg "range" = none
  z_reversed : mg "reversed" = none
  z_str : mg "str" = none
  z_tuple : mg "tuple" = none
  z_zip : mg "zip" = none
section
variable {P : Program} {w : World} {K : PySem.W.Frag} {mg : Str → Option Value} {base : Heap}
theorem len1 {α : Type} {xs : List α} (h : xs.length = 1) : ∃ a,xs = [a] := match xs,h with | [a],_ => ⟨a,rfl⟩
theorem S_is_whole : FnScope ["thing"] ["thing"] (defScope (top 11)) := ⟨rfl,rfl,rfl,by decide +kernel,rfl,by decide +kernel,by decide +kernel⟩
theorem fn_is_whole (D_is_whole : Df K mg "is_whole" (top 11)) (T : Txt mg) : Fn P w K mg base "is_whole" ["thing"] 1 spWhole := by
  refine D_is_whole.fn S_is_whole (fun _ _ _ _ _ _ us hl => by obtain ⟨_,rfl⟩ := len1 hl; rfl) (fun vs H Q E h => ?_) (fun f cdv A outer s H vs Q E hr h => ?_)
  · obtain ⟨x,t,rfl,_⟩ := h
    rfl
  · obtain ⟨x,t,rfl,k,q⟩ := h
    refine ⟨_,(pss_one (ps_ret (pe_and (pe_callB call_isinst (by rfl) T.z_isinstance bt_isinstance (pa_cons (pv 0) (pa_cons (pe_ty T.z_int bt_int) pa_nil))) (pe_one (pe_not (pe_callB call_isinst (by rfl) T.z_isinstance bt_isinstance (pa_cons (pv 0) (pa_cons (pe_ty T.z_bool bt_bool) pa_nil)))))))),?_⟩
    refine ⟨_,rfl,x,t,"int",rfl,k,.inl rfl,_,rfl,?_⟩
    refine ite3 (fun hc => ?_) (fun hc => ?_)
    · refine ⟨_,rfl,x,t,"bool",rfl,k,.inr (.inl rfl),_,rfl,?_⟩
      rw [(whole_sub k).1 hc]
      exact q
    · rw [(whole_sub k).2 hc] at q
      exact q
theorem S_common_divisor : FnScope ["one","other","rest"] ["one","other"] (defScope (top 12)) := ⟨rfl,rfl,rfl,by decide +kernel,rfl,by decide +kernel,by decide +kernel⟩
theorem fn_common_divisor (D_common_divisor : Df K mg "common_divisor" (top 12)) (T : Txt mg) : Fn P w K mg base "common_divisor" ["one","other"] 1 spGcd := by
  refine D_common_divisor.fn S_common_divisor (fun _ _ _ _ _ _ us hl => by obtain ⟨_,_,rfl⟩ := len2 hl; rfl) (fun vs H Q E h => ?_) (fun f cdv A outer s H vs Q E hr h => ?_)
  · obtain ⟨a,b,rfl,_⟩ := h
    rfl
  · obtain ⟨a,b,rfl,q⟩ := h
    refine ⟨_,(pss_cons (ps_set (i := 0) S_common_divisor.nd rfl (Or.inl rfl) (pe_callB call_abs (by rfl) T.z_abs bt_abs (pa_cons (pv 0) pa_nil))) (pss_cons (ps_set (i := 1) S_common_divisor.nd rfl (Or.inl rfl) (pe_callB call_abs (by rfl) T.z_abs bt_abs (pa_cons (pv 1) pa_nil))) (pss_cons (ps_while PassesOwn.never (pt_cmpR op_ne (pv 1) pe_int (nomark _)) (pss_cons (ps_set (i := 2) S_common_divisor.nd rfl (Or.inl rfl) (pe_op op_mod (pv 0) (pv 1))) (pss_cons (ps_set (i := 0) S_common_divisor.nd rfl (Or.inl rfl) (pv 1)) (pss_one (ps_set (i := 1) S_common_divisor.nd rfl (Or.inl rfl) (pv 2)))))) (pss_one (ps_ret (pv 0)))))),?_⟩
    refine ⟨_,rfl,a,rfl,_,rfl,b,rfl,?_⟩
    refine while_by (fun σ H' => ∃ x y r,σ = [some (.int x),some (.int y),r] ∧ H' = H ∧ 0 ≤ x ∧ 0 ≤ y ∧ Int.gcd x y = Int.gcd a b)
      (fun σ _ => match σ with | [_,some (.int y),_] => y.toNat | _ => 0) ⟨_,_,_,rfl,rfl,abs_nonneg a,abs_nonneg b,by rw [gcd_abs,gcd_abs']⟩ ?_ ?_
    · rintro σ H' ⟨x,y,r,rfl,rfl,hx,hy,hg⟩
      refine ⟨_,rfl,rfl,_,rfl,?_⟩
      refine ite3 (fun hc => ?_) (fun hc => ?_)
      · have hy0 : ¬ y = 0 := by simpa using hc
        have hy1 : 0 < y := by omega
        refine ⟨_,rfl,_,rfl,x,y,rfl,rfl,hy1,_,rfl,_,rfl,⟨y,x % y,_,rfl,rfl,hy,Int.emod_nonneg _ hy0,?_⟩,?_⟩
        · rw [gcd_step hx hy1]
          exact hg
        · have h1 := Int.emod_lt_of_pos x hy1
          have h2 := Int.emod_nonneg x hy0
          show (x % y).toNat < y.toNat
          omega
      · have hy0 : y = 0 := by simpa using hc
        subst hy0
        refine ⟨_,rfl,?_⟩
        have e : (Int.gcd a b : Int) = x := by rw [← hg]; exact gcd_zero hx
        rw [e] at q
        exact q
    · rintro σ H' Q1 Q2 hq ⟨v,e,hs,k,ek,r⟩
      exact ⟨v,e,hs,k,ek,hq _ _ r⟩
theorem S_is_ratio : FnScope ["thing"] ["thing"] (defScope (top 22)) := ⟨rfl,rfl,rfl,by decide +kernel,rfl,by decide +kernel,by decide +kernel⟩
theorem fn_is_ratio (D_is_ratio : Df K mg "is_ratio" (top 22)) (F_is_whole : Fn P w K mg base "is_whole" ["thing"] 1 spWhole) (F_common_divisor : Fn P w K mg base "common_divisor" ["one","other"] 1 spGcd) (T : Txt mg) : Fn P w K mg base "is_ratio" ["thing"] 2 spLow := by
  refine D_is_ratio.fn S_is_ratio (fun _ _ _ _ _ _ us hl => by obtain ⟨_,rfl⟩ := len1 hl; rfl) (fun vs H Q E h => ?_) (fun f cdv A outer s H vs Q E hr h => ?_)
  · obtain ⟨x,rfl,_⟩ := h
    rfl
  · obtain ⟨x,rfl,th,q⟩ := h
    obtain ⟨t,k⟩ := th.kn
    refine ⟨_,(pss_cons (ps_if (pw_or (pt_not (pt_val (pe_callB call_isinst (by rfl) T.z_isinstance bt_isinstance (pa_cons (pv 0) (pa_cons (pe_ty T.z_tuple bt_tuple) pa_nil))))) (pw_or1 (pt_cmpR op_ne (pe_callB call_len_seq (by rfl) T.z_len bt_len (pa_cons (pv 0) pa_nil)) pe_int (nomark _)))).pt (pss_one (ps_ret pe_bl)) pss_nil) (pss_cons (ps_if (pw_or (pt_not (pt_val (pe_fn F_is_whole (hr.mono (by decide)) (by rfl) (pa_cons (pe_ix ix_tup (pv 0) pe_int (fun _ _ => rfl)) pa_nil)))) (pw_or1 (pt_not (pt_val (pe_fn F_is_whole (hr.mono (by decide)) (by rfl) (pa_cons (pe_ix ix_tup (pv 0) pe_int (fun _ _ => rfl)) pa_nil)))))).pt (pss_one (ps_ret pe_bl)) pss_nil) (pss_one (ps_ret (pe_and (pe_cmpR op_ge (pe_ix ix_tup (pv 0) pe_int (fun _ _ => rfl)) pe_int (nomark _)) (pe_one (pe_cmpR op_eq (pe_fn F_common_divisor (hr.mono (by decide)) (by rfl) (pa_cons (pe_ix ix_tup (pv 0) pe_int (fun _ _ => rfl)) (pa_cons (pe_ix ix_tup (pv 0) pe_int (fun _ _ => rfl)) pa_nil))) pe_int (nomark _)))))))),?_⟩
    refine ⟨_,rfl,x,t,"tuple",rfl,k,.inr (.inr (.inl rfl)),_,rfl,?_⟩
    rcases Kn.cases_tup k with ⟨p,xs,rfl,e,rfl⟩ | ⟨hl,hs⟩
    · -- a tuple
      rw [lowV_tup e] at q
      refine iteF ?_
      refine ⟨_,rfl,p,xs,rfl,.inr (SqT.of e),rfl,_,rfl,?_⟩
      refine ite3 (fun hc => ?_) (fun hc => ?_)
      · have hn : xs.length ≠ 2 := by
          intro z
          rw [z] at hc
          exact absurd hc (by decide)
        rw [lowL_len hn] at q
        exact q
      · have hn : xs.length = 2 := by
          have z : (xs.length : Int) = 2 := by simpa using hc
          omega
        match xs,hn,e,q with
        | [y,z],_,e,q =>
          obtain ⟨ty,ky⟩ := th.parts p _ rfl e y (by simp)
          obtain ⟨tz,kz⟩ := th.parts p _ rfl e z (by simp)
          refine ⟨_,rfl,p,_,_,_,rfl,rfl,SqT.of e,rfl,y,ty,rfl,ky,_,rfl,?_⟩
          rcases Kn.cases_int ky with ⟨a,rfl,rfl⟩ | ⟨ny,ey⟩
          · refine iteF ?_
            refine ⟨_,rfl,p,_,_,_,rfl,rfl,SqT.of e,rfl,z,tz,rfl,kz,_,rfl,?_⟩
            rcases Kn.cases_int kz with ⟨b,rfl,rfl⟩ | ⟨nz,ez⟩
            · refine iteF ?_
              refine ⟨_,rfl,p,_,_,_,rfl,rfl,SqT.of e,rfl,b,1,rfl,rfl,_,rfl,?_⟩
              have q' : Q (.bl (lowB a b)) H := q
              unfold lowB at q'
              refine ite3 (fun hc => ?_) (fun hc => ?_)
              · refine ⟨_,rfl,p,_,_,_,rfl,rfl,SqT.of e,rfl,_,rfl,p,_,_,_,rfl,rfl,SqT.of e,rfl,a,b,rfl,rfl,?_⟩
                rw [hc,Bool.true_and] at q'
                have e1 : decide (V.int (Int.gcd a b : Int) = V.int 1) = decide (Int.gcd a b = 1) := by
                  rw [Bool.eq_iff_iff]
                  simp
                  omega
                rw [← e1] at q'
                exact q'
              · rw [hc,Bool.false_and] at q'
                exact q'
            · rw [ez,lowL_snd nz] at *
              exact q
          · rw [ey,lowL_fst ny] at *
            exact q
    · rw [hs]
      rw [hl] at q
      exact q
theorem S_less : FnScope ["a","b"] ["a","b"] (defScope (top 18)) := ⟨rfl,rfl,rfl,by decide +kernel,rfl,by decide +kernel,by decide +kernel⟩
theorem fn_less (D_less : Df K mg "less" (top 18)) : Fn P w K mg base "less" ["a","b"] 1 spLess := by
  refine D_less.fn S_less (fun _ _ _ _ _ _ us hl => by obtain ⟨_,_,rfl⟩ := len2 hl; rfl) (fun vs H Q E h => ?_) (fun f cdv A outer s H vs Q E hr h => ?_)
  · obtain ⟨p,q,a,b,c,d,rfl,_⟩ := h
    rfl
  · obtain ⟨p,q,a,b,c,d,rfl,hp,hq,⟨ba,bb,bc,bd⟩,k⟩ := h
    refine ⟨_,(pss_one (ps_ret (pe_cmpR op_lt (pe_op op_mulX (pe_ix ix_tup (pv 0) pe_int (fun _ _ => rfl)) (pe_ix ix_tup (pv 1) pe_int (fun _ _ => rfl))) (pe_op op_mulX (pe_ix ix_tup (pv 1) pe_int (fun _ _ => rfl)) (pe_ix ix_tup (pv 0) pe_int (fun _ _ => rfl))) (nomark _)))),?_⟩
    refine ⟨_,rfl,p,_,_,_,rfl,rfl,SqT.of hp,rfl,_,rfl,q,_,_,_,rfl,rfl,SqT.of hq,rfl,a,d,rfl,rfl,CM.b ba bd (by decide) (by decide),?_⟩
    refine ⟨_,rfl,q,_,_,_,rfl,rfl,SqT.of hq,rfl,_,rfl,p,_,_,_,rfl,rfl,SqT.of hp,rfl,c,b,rfl,rfl,CM.b bc bb (by decide) (by decide),?_⟩
    exact ⟨_,_,rfl,rfl,k⟩
theorem S_floor_of : FnScope ["a"] ["a"] (defScope (top 19)) := ⟨rfl,rfl,rfl,by decide +kernel,rfl,by decide +kernel,by decide +kernel⟩
theorem fn_floor_of (D_floor_of : Df K mg "floor_of" (top 19)) : Fn P w K mg base "floor_of" ["a"] 1 spFloor := by
  refine D_floor_of.fn S_floor_of (fun _ _ _ _ _ _ us hl => by obtain ⟨_,rfl⟩ := len1 hl; rfl) (fun vs H Q E h => ?_) (fun f cdv A outer s H vs Q E hr h => ?_)
  · obtain ⟨p,a,b,rfl,_⟩ := h
    rfl
  · obtain ⟨p,a,b,rfl,hp,⟨hb,bb⟩,k⟩ := h
    refine ⟨_,(pss_one (ps_ret (pe_op op_fdivP (pe_ix ix_tup (pv 0) pe_int (fun _ _ => rfl)) (pe_ix ix_tup (pv 0) pe_int (fun _ _ => rfl))))),?_⟩
    exact ⟨_,rfl,p,_,_,_,rfl,rfl,SqT.of hp,rfl,_,rfl,p,_,_,_,rfl,rfl,SqT.of hp,rfl,a,b,rfl,rfl,⟨hb,bits_le bb (by decide)⟩,k⟩
theorem S_ratio : FnScope ["top","bottom","divisor"] ["top","bottom"] (defScope (top 13)) := ⟨rfl,rfl,rfl,by decide +kernel,rfl,by decide +kernel,by decide +kernel⟩
theorem fn_ratio {C : Addr} (D_ratio : DfD K mg "ratio" (top 13) [.int 1]) (O_NoRatio : ExcC K mg "NoRatio" C) (F_is_whole : Fn P w K mg base "is_whole" ["thing"] 1 spWhole) (F_common_divisor : Fn P w K mg base "common_divisor" ["one","other"] 1 spGcd) : Fx P w K mg base "ratio" ["top","bottom"] 2 [.int 1] (spRatio C) := by
  refine D_ratio.fx S_ratio (fun T kV doc pm an cdv ct us its oT n s hv hl ho hs => ?_) (fun T kV doc pm an cdv ct us its oT n s hv hl ho hs => ?_) (fun vs H Q E h => ?_) (fun f cdv A outer s H vs Q E hr h => ?_)
  · obtain ⟨u,rfl,_⟩ := vals1 hv
    match us,hl with
    | [_,_],_ => exact BindsTo.of_defaults rfl ho hs rfl rfl
  · obtain ⟨u,rfl,_⟩ := vals1 hv
    have hl1 : us.length = 1 := by simpa using hl
    match us,hl1 with
    | [_],_ => exact BindsTo.of_defaults rfl ho hs rfl rfl
  · obtain ⟨a,b,rfl,_⟩ := h
    rfl
  · obtain ⟨a,b,rfl,⟨ba,bb⟩,k0,k1⟩ := h
    refine ⟨_,(pss_cons (ps_if (pw_or (pt_not (pt_val (pe_fn F_is_whole (hr.mono (by decide)) (by rfl) (pa_cons (pv 0) pa_nil)))) (pw_or (pt_not (pt_val (pe_fn F_is_whole (hr.mono (by decide)) (by rfl) (pa_cons (pv 1) pa_nil)))) (pw_or1 (pt_cmpR op_eq (pv 1) pe_int (nomark _))))).pt (pss_one (ps_raise O_NoRatio (by rfl))) pss_nil) (pss_cons (ps_set (i := 2) S_ratio.nd rfl (Or.inl rfl) (pe_fn F_common_divisor (hr.mono (by decide)) (by rfl) (pa_cons (pv 0) (pa_cons (pv 1) pa_nil)))) (pss_cons (ps_if (pt_cmpR op_lt (pv 1) pe_int (nomark _)) (pss_one (ps_set (i := 2) S_ratio.nd rfl (Or.inl rfl) (pe_un un_neg (pv 2)))) pss_nil) (pss_one (ps_ret (pe_tup (pa_cons (pe_op op_fdivZ (pv 0) (pv 2)) (pa_cons (pe_op op_fdivZ (pv 1) (pv 2)) pa_nil)))))))),?_⟩
    refine ⟨_,rfl,_,_,rfl,.int a,_,rfl,iteF ?_⟩
    refine ⟨_,rfl,_,_,rfl,.int b,_,rfl,iteF ?_⟩
    refine ⟨_,rfl,rfl,_,rfl,?_⟩
    refine ite3 (fun hc => ?_) (fun hc => ?_)
    · exact k0 (by simpa using hc)
    · have hb : b ≠ 0 := by simpa using hc
      have hg := gcd_pos (a := a) (b := b) hb
      have bg : bits (Int.gcd a b : Int) ≤ 8000 := bits_le (gcd_bits2 hb bb) (by decide)
      refine ⟨_,rfl,_,rfl,a,b,rfl,?_⟩
      refine ⟨_,rfl,_,_,rfl,rfl,_,rfl,?_⟩
      refine ite3 (fun hd => ?_) (fun hd => ?_)
      · have hlt : b < 0 := by simpa using hd
        refine ⟨_,rfl,_,rfl,?_⟩
        refine ⟨_,rfl,_,rfl,_,_,rfl,rfl,⟨by omega,bits_neg bg⟩,_,rfl,_,rfl,_,_,rfl,rfl,⟨by omega,bits_neg bg⟩,sz (by simp),fun p hp => ?_⟩
        exact k1 hb p _ _ (frac_fdiv hb _ (by rw [if_pos hlt])) (bits_fdiv ba) (bits_fdiv bb) hp
      · have hlt : ¬ b < 0 := by simpa using hd
        refine ⟨_,rfl,_,rfl,_,_,rfl,rfl,⟨by omega,bg⟩,_,rfl,_,rfl,_,_,rfl,rfl,⟨by omega,bg⟩,sz (by simp),fun p hp => ?_⟩
        exact k1 hb p _ _ (frac_fdiv hb _ (by rw [if_neg hlt])) (bits_fdiv ba) (bits_fdiv bb) hp
theorem S_last_of : FnScope ["line"] ["line"] (defScope (top 24)) := ⟨rfl,rfl,rfl,by decide +kernel,rfl,by decide +kernel,by decide +kernel⟩
theorem fn_last_of (D_last_of : Df K mg "last_of" (top 24)) (T : Txt mg) : Fn P w K mg base "last_of" ["line"] 1 spLast := by
  refine D_last_of.fn S_last_of (fun _ _ _ _ _ _ us hl => by obtain ⟨_,rfl⟩ := len1 hl; rfl) (fun vs H Q E h => ?_) (fun f cdv A outer s H vs Q E hr h => ?_)
  · obtain ⟨p,xs,rfl,_⟩ := h
    rfl
  · obtain ⟨p,xs,rfl,e,q⟩ := h
    exact ⟨_,(pss_one (ps_ret (pe_op op_sub (pe_callB call_len_seq (by rfl) T.z_len bt_len (pa_cons (pv 0) pa_nil)) pe_int))),_,rfl,p,xs,rfl,.inl (SqL.of e),_,_,rfl,rfl,q⟩
theorem S_is_place : FnScope ["line","thing"] ["line","thing"] (defScope (top 26)) := ⟨rfl,rfl,rfl,by decide +kernel,rfl,by decide +kernel,by decide +kernel⟩
theorem fn_is_place (D_is_place : Df K mg "is_place" (top 26)) (F_is_ratio : Fn P w K mg base "is_ratio" ["thing"] 2 spLow) (F_last_of : Fn P w K mg base "last_of" ["line"] 1 spLast) : Fn P w K mg base "is_place" ["line","thing"] 3 spIsPlace := by
  refine D_is_place.fn S_is_place (fun _ _ _ _ _ _ us hl => by obtain ⟨_,_,rfl⟩ := len2 hl; rfl) (fun vs H Q E h => ?_) (fun f cdv A outer s H vs Q E hr h => ?_)
  · obtain ⟨p,xs,x,rfl,_⟩ := h
    rfl
  · obtain ⟨p,xs,x,rfl,e,hl,th,q⟩ := h
    refine ⟨_,(pss_one (ps_ret (pe_and (pe_fn F_is_ratio (hr.mono (by decide)) (by rfl) (pa_cons (pv 1) pa_nil)) (pe_one (pe_chain op_le op_le pe_int (pe_ix ix_tup (pv 1) pe_int (fun _ _ => rfl)) (pe_op op_mulX (pe_fn F_last_of (hr.mono (by decide)) (by rfl) (pa_cons (pv 0) pa_nil)) (pe_ix ix_tup (pv 1) pe_int (fun _ _ => rfl)))))))),?_⟩
    refine ⟨_,rfl,x,rfl,th,_,rfl,ite3 (fun hc => ?_) (fun hc => ?_)⟩
    · obtain ⟨u,a,b,rfl,eu,lw⟩ := lowV_inv hc
      rw [placeV_tup eu,low_B lw,Bool.true_and] at q
      refine ⟨_,rfl,u,_,_,_,rfl,rfl,SqT.of eu,rfl,_,_,rfl,rfl,_,rfl,ite3 (fun hd => ?_) (fun hd => ?_)⟩
      · rw [hd,Bool.true_and] at q
        exact ⟨_,rfl,p,xs,rfl,e,_,rfl,u,_,_,_,rfl,rfl,SqT.of eu,rfl,_,_,rfl,rfl,CM.l (lt64s (by omega) (by omega)),_,_,rfl,rfl,q⟩
      · rw [hd,Bool.false_and] at q
        exact q
    · rw [placeV_low hc] at q
      exact q
theorem S_share_a_stretch : FnScope ["one","other","low","high"] ["one","other"] (defScope (top 32)) := ⟨rfl,rfl,rfl,by decide +kernel,rfl,by decide +kernel,by decide +kernel⟩
theorem fn_share_a_stretch {C : Addr} (D_share_a_stretch : Df K mg "share_a_stretch" (top 32)) (F_less : Fn P w K mg base "less" ["a","b"] 1 spLess) (F_floor_of : Fn P w K mg base "floor_of" ["a"] 1 spFloor) (F_ratio : Fx P w K mg base "ratio" ["top","bottom"] 2 [.int 1] (spRatio C)) : Fn P w K mg base "share_a_stretch" ["one","other"] 3 spShare := by
  refine D_share_a_stretch.fn S_share_a_stretch (fun _ _ _ _ _ _ us hl => by obtain ⟨_,_,rfl⟩ := len2 hl; rfl) (fun vs H Q E h => ?_) (fun f cdv A outer s H vs Q E hr h => ?_)
  · obtain ⟨p,q,a,b,c,d,rfl,_⟩ := h
    rfl
  · obtain ⟨p,q,a,b,c,d,rfl,ep,eq,sa,sc,k⟩ := h
    have R : ∃ u : TS,PSs (cxOf CX0 P w K mg base ["one","other","low","high"] "share_a_stretch" (defScope (top 32)) f cdv A outer s H E).nox ((defBody (top 32)).drop 3) u ∧ ∀ (z1 z2 : Option V) (lo hi : Addr) (a b c d : Int),H lo = some (.tup [.int a,.int b]) → H hi = some (.tup [.int c,.int d]) → Small a b → Small c d →
        (∀ H',Same H H' → Q (.bl (!decide ((a / b + 1) * d < c * 1))) H') → u { nx := fun _ H' => Q .non H',rt := Q } [z1,z2,some (.ref lo),some (.ref hi)] H := by
      refine ⟨_,(pss_one (ps_ret (pe_not (pe_fn F_less (hr.mono (by decide)) (by rfl) (pa_cons (pe_fxd0 F_ratio (hr.mono (by decide)) (by rfl) (pa_cons (pe_op op_add (pe_fn F_floor_of (hr.mono (by decide)) (by rfl) (pa_cons (pv 2) pa_nil)) pe_int) pa_nil)) (pa_cons (pv 3) pa_nil)))))),?_⟩
      intro z1 z2 lo hi a b c d elo ehi sa sc k
      have b1 : bits 1 ≤ 2000 := bits_le (m := 1) (by decide) (by decide)
      have bf : bits (a / b + 1) ≤ 1001 := bits_add (bits_ediv sa.pos sa.ba) (bits_le (m := 1) (by decide) (by decide))
      refine ⟨_,rfl,lo,a,b,rfl,elo,⟨sa.pos,bits_le sa.bb (by decide)⟩,_,_,rfl,rfl,_,1,rfl,⟨bits_le bf (by decide),b1⟩,fun z => absurd z (by decide),fun _ r t u fr bt bu hr' => ?_⟩
      obtain ⟨et,eu⟩ := frac_unique (by decide) fr (frac_self ⟨Int.le_refl 1,Int.gcd_one⟩)
      subst et eu
      obtain ⟨H1,e1,s1,f1⟩ := grow (o := .tup [.int (a / b + 1),.int 1]) hr'
      rw [e1]
      exact ⟨_,rfl,r,hi,a / b + 1,1,c,d,rfl,f1,s1 _ _ ehi,⟨bits_le bf (by decide),b1,bits_le sc.ba (by decide),bits_le sc.bb (by decide)⟩,_,rfl,k H1 s1⟩
    obtain ⟨u,hu,rd⟩ := R
    refine ⟨_,(pss_cons (ps_set (i := 2) S_share_a_stretch.nd rfl (Or.inl rfl) (pv 0)) (pss_cons (ps_set (i := 3) S_share_a_stretch.nd rfl (Or.inl rfl) (pv 1)) (pss_cons (ps_if (pt_val (pe_fn F_less (hr.mono (by decide)) (by rfl) (pa_cons (pv 1) (pa_cons (pv 0) pa_nil)))) (pss_cons (ps_set (i := 2) S_share_a_stretch.nd rfl (Or.inl rfl) (pv 1)) (pss_one (ps_set (i := 3) S_share_a_stretch.nd rfl (Or.inl rfl) (pv 0)))) pss_nil) hu))),?_⟩
    refine ⟨_,rfl,_,rfl,?_⟩
    refine ⟨_,rfl,_,rfl,q,p,c,d,a,b,rfl,eq,ep,⟨bits_le sc.ba (by decide),bits_le sc.bb (by decide),bits_le sa.ba (by decide),bits_le sa.bb (by decide)⟩,_,rfl,ite3 (fun hc => ?_) (fun hc => ?_)⟩
    · have h : c * b < a * d := by simpa using hc
      refine ⟨_,rfl,_,rfl,rd _ _ q p c d a b eq ep sc sa fun H' s' => ?_⟩
      have z := k H' s'
      unfold shareB at z
      rw [if_pos h] at z
      exact z
    · have h : ¬ c * b < a * d := by simpa using hc
      refine rd _ _ p q a b c d ep eq sa sc fun H' s' => ?_
      have z := k H' s'
      unfold shareB at z
      rw [if_neg h] at z
      exact z
theorem S_law_cell_at : FnScope ["script","k"] ["script","k"] (defScope (top 73)) := ⟨rfl,rfl,rfl,by decide +kernel,rfl,by decide +kernel,by decide +kernel⟩
theorem fn_law_cell_at (D_law_cell_at : Df K mg "_law_cell_at" (top 73)) (T : Txt mg) : Fn P w K mg base "_law_cell_at" ["script","k"] 1 (Dr.spCell K) := by
  refine D_law_cell_at.fn S_law_cell_at (fun _ _ _ _ _ _ us hl => by obtain ⟨_,_,rfl⟩ := len2 hl; rfl) (fun vs H Q E h => ?_) (fun f cdv A outer s H vs Q E hr h => ?_)
  · obtain ⟨sa,ss,k,rfl,_⟩ := h
    rfl
  · obtain ⟨sa,ss,k,rfl,hS,hk,q⟩ := h
    refine ⟨_,(pss_cons (ps_if (pt_cmpR op_lt (pv 1) (pe_callB call_len_seq (by rfl) T.z_len bt_len (pa_cons (pv 0) pa_nil)) (nomark _)) (pss_one (ps_ret (pe_ix ix_list (pv 0) (pv 1) (fun _ _ => rfl)))) pss_nil) (pss_one (ps_ret pe_int))),?_⟩
    refine ⟨_,rfl,_,rfl,sa,_,rfl,.inl hS,_,_,rfl,rfl,_,rfl,ite3 (fun h1 => ?_) (fun h1 => ?_)⟩
    · have h1 : k < (((ss.map V.int).length : Nat) : Int) := dec_t h1
      rw [List.length_map] at h1
      exact ⟨_,rfl,_,rfl,sa,_,_,_,rfl,rfl,hS,at_int k.toNat (by omega) (by omega),q _⟩
    · exact q _
theorem S_law_begun : FnScope ["cell","rest"] ["cell"] (defScope (top 75)) := ⟨rfl,rfl,rfl,by decide +kernel,rfl,by decide +kernel,by decide +kernel⟩
theorem fn_law_begun (D_law_begun : Df K mg "_law_begun" (top 75)) (T : Txt mg) : Fn P w K mg base "_law_begun" ["cell"] 1 Dr.spBegun := by
  refine D_law_begun.fn S_law_begun (fun _ _ _ _ _ _ us hl => by obtain ⟨_,rfl⟩ := len1 hl; rfl) (fun vs H Q E h => ?_) (fun f cdv A outer s H vs Q E hr h => ?_)
  · obtain ⟨c,rfl,_⟩ := h
    rfl
  · obtain ⟨c,rfl,q⟩ := h
    refine ⟨_,(pss_cons (ps_set (i := 1) S_law_begun.nd rfl (Or.inl rfl) pe_int) (pss_cons (ps_if (pt_cmpR op_ge (pe_callB call_abs (by rfl) T.z_abs bt_abs (pa_cons (pv 0) pa_nil)) (pe_op op_pow pe_int pe_int) (nomark _)) (pss_one (ps_set (i := 1) S_law_begun.nd rfl (Or.inl rfl) (pe_op op_add (pe_op op_sub (pe_callB call_abs (by rfl) T.z_abs bt_abs (pa_cons (pv 0) pa_nil)) (pe_op op_pow pe_int pe_int)) pe_int))) pss_nil) (pss_one (ps_ret (pe_lstA (pa_cons (pv 1) (pa_cons pe_int (pa_cons (pe_op op_mod (pv 0) pe_int) pa_nil)))))))),?_⟩
    refine ⟨_,rfl,_,rfl,_,_,rfl,rfl,⟨by decide,by decide,by decide⟩,_,_,rfl,rfl,_,rfl,ite3 (fun h1 => ?_) (fun h1 => ?_)⟩
    · refine ⟨_,rfl,_,rfl,_,_,rfl,rfl,⟨by decide,by decide,by decide⟩,_,_,rfl,rfl,_,_,rfl,rfl,?_⟩
      refine ⟨_,rfl,_,rfl,_,_,rfl,rfl,(by show (0 : Int) < 2147483647; decide),sz (by simp),fun p H2 s2 f2 n2 => ?_⟩
      exact q p H2 s2 n2 ⟨_,_,_,f2,Int.le_refl 0,Int.le_refl 0,Int.emod_nonneg _ (by decide),Int.emod_lt_of_pos _ (by decide)⟩
    · refine ⟨_,rfl,_,rfl,_,_,rfl,rfl,(by show (0 : Int) < 2147483647; decide),sz (by simp),fun p H2 s2 f2 n2 => ?_⟩
      exact q p H2 s2 n2 ⟨_,_,_,f2,Int.le_refl 0,Int.le_refl 0,Int.emod_nonneg _ (by decide),Int.emod_lt_of_pos _ (by decide)⟩
theorem S_law_take : FnScope ["pot","size","digit","mixed"] ["pot","size"] (defScope (top 76)) := ⟨rfl,rfl,rfl,by decide +kernel,rfl,by decide +kernel,by decide +kernel⟩
theorem fn_law_take (D_law_take : Df K mg "_law_take" (top 76)) : Fn P w K mg base "_law_take" ["pot","size"] 1 Dr.spTk := by
  refine D_law_take.fn S_law_take (fun _ _ _ _ _ _ us hl => by obtain ⟨_,_,rfl⟩ := len2 hl; rfl) (fun vs H Q E h => ?_) (fun f cdv A outer s H vs Q E hr h => ?_)
  · obtain ⟨p,m,k,rfl,_⟩ := h
    rfl
  · obtain ⟨p,m,k,rfl,⟨a,b,c,e,hb0,hb1,hc0,hc1⟩,hk,⟨hm,bm⟩,q⟩ := h
    refine ⟨_,(pss_cons (ps_if (pt_cmpR op_gt (pe_ix ix_list (pv 0) pe_int (fun _ _ => rfl)) pe_int (nomark _)) (pss_cons (ps_set (i := 2) S_law_take.nd rfl (Or.inl rfl) (pe_op op_mod (pe_ix ix_list (pv 0) pe_int (fun _ _ => rfl)) (pv 1))) (pss_cons (ps_asg (pe_op op_fdivP (pe_ix ix_list (pv 0) pe_int (fun _ _ => rfl)) (pv 1)) (pg_sub (pv 0) pe_int set_listA)) (pss_one (ps_ret (pv 2))))) pss_nil) (pss_cons (ps_asg (pe_op op_add (pe_ix ix_list (pv 0) pe_int (fun _ _ => rfl)) pe_int) (pg_sub (pv 0) pe_int set_listA)) (pss_cons (ps_set (i := 3) S_law_take.nd rfl (Or.inl rfl) (pe_op op_mod (pe_op op_add (pe_op op_add (pe_op op_add (pe_ix ix_list (pv 0) pe_int (fun _ _ => rfl)) (pe_op op_mulX (pe_op op_mulX pe_int (pe_ix ix_list (pv 0) pe_int (fun _ _ => rfl))) (pe_ix ix_list (pv 0) pe_int (fun _ _ => rfl)))) (pe_op op_mulX pe_int (pe_ix ix_list (pv 0) pe_int (fun _ _ => rfl)))) pe_int) pe_int)) (pss_cons (ps_set (i := 3) S_law_take.nd rfl (Or.inl rfl) (pe_op op_mod (pe_op op_mulX (pe_op op_mod (pe_op op_mulX (pv 3) (pv 3)) pe_int) pe_int) pe_int)) (pss_one (ps_ret (pe_op op_mod (pe_op op_fdivP (pv 3) pe_int) (pv 1)))))))),?_⟩
    refine ⟨_,rfl,p,_,_,_,rfl,rfl,SqL.of e,rfl,_,_,rfl,rfl,_,rfl,ite3 (fun h1 => ?_) (fun h1 => ?_)⟩
    · refine ⟨_,rfl,p,_,_,_,rfl,rfl,SqL.of e,rfl,_,rfl,_,_,rfl,rfl,hm,?_⟩
      refine ⟨_,rfl,p,_,_,_,rfl,rfl,SqL.of e,rfl,_,rfl,_,_,rfl,rfl,⟨hm,bm⟩,_,rfl,p,_,_,0,rfl,rfl,e,rfl,fun H2 u => ?_⟩
      exact ⟨_,rfl,q _ _ (Int.emod_nonneg _ (by omega)) (Int.emod_lt_of_pos _ hm) (fun b o nb e => u.at nb e) ⟨_,_,_,u.now,hb0,by omega,hc0,hc1⟩⟩
    · have e64 : (2 : Int) ^ 64 = 18446744073709551616 := by decide
      refine ⟨_,rfl,p,_,_,_,rfl,rfl,SqL.of e,rfl,_,_,rfl,rfl,_,rfl,p,_,_,1,rfl,rfl,e,rfl,fun H2 u => ?_⟩
      have e2 : H2 p = some (.lst [.int a,.int (b + 1),.int c]) := u.now
      refine ⟨_,rfl,p,_,_,_,rfl,rfl,SqL.of e2,rfl,_,rfl,p,_,_,_,rfl,rfl,SqL.of e2,rfl,_,_,rfl,rfl,CM.l ⟨by decide,by decide⟩,_,rfl,p,_,_,_,rfl,rfl,SqL.of e2,rfl,_,_,rfl,rfl,CM.l (by rw [e64]; omega),_,_,rfl,rfl,_,rfl,p,_,_,_,rfl,rfl,SqL.of e2,rfl,_,_,rfl,rfl,CM.l ⟨by decide,by decide⟩,_,_,rfl,rfl,_,_,rfl,rfl,_,_,rfl,rfl,(by show (0 : Int) < 2147483647; decide),?_⟩
      have r0 := Int.emod_nonneg (c + 977 * (b + 1) * (b + 1) + 40693 * (b + 1) + 1) (show (2147483647 : Int) ≠ 0 by decide)
      have r1 := Int.emod_lt_of_pos (c + 977 * (b + 1) * (b + 1) + 40693 * (b + 1) + 1) (show (0 : Int) < 2147483647 by decide)
      refine ⟨_,rfl,_,rfl,_,_,rfl,rfl,CM.l (by rw [e64]; omega),_,_,rfl,rfl,(by show (0 : Int) < 1000000007; decide),_,_,rfl,rfl,CM.r ⟨by decide,by decide⟩,_,_,rfl,rfl,(by show (0 : Int) < 998244353; decide),?_⟩
      refine ⟨_,rfl,_,_,rfl,rfl,⟨by decide,by decide⟩,_,rfl,_,_,rfl,rfl,hm,?_⟩
      exact q _ _ (Int.emod_nonneg _ (by omega)) (Int.emod_lt_of_pos _ hm) (fun b o nb e => u.at nb e) ⟨_,_,_,u.now,by omega,by omega,hc0,hc1⟩
theorem S_law_wide : FnScope ["pot","size","number","turn"] ["pot","size"] (defScope (top 77)) := ⟨rfl,rfl,rfl,by decide +kernel,rfl,by decide +kernel,by decide +kernel⟩
theorem fn_law_wide (D_law_wide : Df K mg "_law_wide" (top 77)) (F_law_take : Fn P w K mg base "_law_take" ["pot","size"] 1 Dr.spTk) (T : Txt mg) : Fn P w K mg base "_law_wide" ["pot","size"] 2 Dr.spWd := by
  refine D_law_wide.fn S_law_wide (fun _ _ _ _ _ _ us hl => by obtain ⟨_,_,rfl⟩ := len2 hl; rfl) (fun vs H Q E h => ?_) (fun f cdv A outer s H vs Q E hr h => ?_)
  · obtain ⟨p,m,k,rfl,_⟩ := h
    rfl
  · obtain ⟨p,m,k,rfl,pt,hk,⟨hm,bm⟩,q⟩ := h
    refine ⟨_,(pss_cons (ps_if (pw_or (pt_cmpR op_gt (pe_ix ix_list (pv 0) pe_int (fun _ _ => rfl)) pe_int (nomark _)) (pw_or1 (pt_cmpR op_lt (pv 1) (pe_op op_pow pe_int pe_int) (nomark _)))).pt (pss_one (ps_ret (pe_fn F_law_take (hr.mono (by decide)) (by rfl) (pa_cons (pv 0) (pa_cons (pv 1) pa_nil))))) pss_nil) (pss_cons (ps_set (i := 2) S_law_wide.nd rfl (Or.inl rfl) pe_int) (pss_cons (ps_for PassesOwn.never rfl (pi_range1 rfl T.z_range (pa_cons pe_int pa_nil)) (pg_name (i := 3) S_law_wide.nd rfl (Or.inl rfl)) (pss_one (ps_set (i := 2) S_law_wide.nd rfl (Or.inl rfl) (pe_op op_add (pe_op op_mulX (pv 2) pe_int) (pe_fn F_law_take (hr.mono (by decide)) (by rfl) (pa_cons (pv 0) (pa_cons pe_int pa_nil))))))) (pss_one (ps_ret (pe_op op_mod (pv 2) (pv 1))))))),?_⟩
    obtain ⟨a,b,c,e,rest⟩ := id pt
    have tk : ∀ H1,H1 = H → spTk [.ref p,.int m] H1 Q E0 := fun H1 e1 => by
      subst e1
      exact ⟨p,m,k,rfl,pt,by omega,⟨hm,bm⟩,fun r H2 h0 h1 b2 p2 => q r H2 h0 h1 b2 (p2.mono (by omega))⟩
    refine ⟨_,rfl,p,_,_,_,rfl,rfl,SqL.of e,rfl,_,_,rfl,rfl,_,rfl,ite3 (fun h1 => ?_) (fun h1 => ?_)⟩
    · exact ⟨_,rfl,_,rfl,tk _ rfl⟩
    refine ⟨_,rfl,_,_,rfl,rfl,⟨by decide,by decide,by decide⟩,_,_,rfl,rfl,_,rfl,ite3 (fun h2 => ?_) (fun h2 => ?_)⟩
    · exact ⟨_,rfl,_,rfl,tk _ rfl⟩
    refine ⟨4,rfl,by decide,by decide,for_range (n := 4) (lo := 0) (fun i σ H2 => ∃ (n : Int) (z : Option V),σ = [some (.ref p),some (.int m),some (.int n),z] ∧ But p H H2 ∧ Pot H2 p (k + (i : Int))) ⟨_,_,rfl,But.refl,by simpa using pt⟩ ?_ ?_⟩
    · rintro i σ H2 hi ⟨n,z,rfl,b2,p2⟩
      refine ⟨_,rfl,_,_,rfl,rfl,CM.r ⟨by decide,by decide⟩,_,rfl,p,_,_,rfl,p2,by omega,⟨by decide,by decide⟩,fun r H3 h0 h1 b3 p3 => ⟨_,_,rfl,rfl,_,_,rfl,b2.trans b3,p3.mono (by omega)⟩⟩
    · rintro σ H2 ⟨n,z,rfl,b2,p2⟩
      exact ⟨_,rfl,_,rfl,_,_,rfl,rfl,hm,q _ _ (Int.emod_nonneg _ (by omega)) (Int.emod_lt_of_pos _ hm) b2 p2⟩
theorem S_law_drawn_line : FnScope ["pot","many","span","half","line","k","at"] ["pot"] (defScope (top 78)) := ⟨rfl,rfl,rfl,by decide +kernel,rfl,by decide +kernel,by decide +kernel⟩
theorem fn_law_drawn_line (D_law_drawn_line : Df K mg "_law_drawn_line" (top 78)) (F_law_take : Fn P w K mg base "_law_take" ["pot","size"] 1 Dr.spTk) (F_law_wide : Fn P w K mg base "_law_wide" ["pot","size"] 2 Dr.spWd) (T : Txt mg) : Fn P w K mg base "_law_drawn_line" ["pot"] 3 Dr.spDLine := by
  refine D_law_drawn_line.fn S_law_drawn_line (fun _ _ _ _ _ _ us hl => by obtain ⟨_,rfl⟩ := len1 hl; rfl) (fun vs H Q E h => ?_) (fun f cdv A outer s H vs Q E hr h => ?_)
  · obtain ⟨p,k,rfl,_⟩ := h
    rfl
  · obtain ⟨p,k,rfl,pt,hk,q⟩ := h
    have CN : CompN (cxOf CX0 P w K mg base ["pot","many","span","half","line","k","at"] "_law_drawn_line" (defScope (top 78)) f cdv A outer s H E).nox (setScope (ifBody ((defBody (top 78)).getD 5 (.Pass ⟨0,0,0,0⟩)))) [] "corner" [] :=
      ⟨by rfl,rfl,by decide +kernel,by decide +kernel,rfl,(fun p hp => nomatch hp),by rfl,by decide +kernel,(fun p hp => nomatch hp),⟨rfl,rfl⟩,rfl⟩
    have R : ∃ u,PSs (cxOf CX0 P w K mg base ["pot","many","span","half","line","k","at"] "_law_drawn_line" (defScope (top 78)) f cdv A outer s H E).nox ((defBody (top 78)).drop 6) u ∧ ∀ (l : Addr) (qs : Crn) (H1 : Hp) (S F : Int) (z5 z6 : Option V),LineM H1 l qs → 1 ≤ qs.length → qs.length ≤ 10 → H l = none → l ≠ p → But p H H1 → Pot H1 p (k + 90) →
        u { nx := fun _ H' => Q .non H',rt := Q } [some (.ref p),some (.int (qs.length : Int)),some (.int S),some (.int F),some (.ref l),z5,z6] H1 := by
      refine ⟨_,(pss_cons (ps_if (pw_and (pt_cmpR op_gt (pv 1) pe_int (nomark _)) (pw_and1 (pt_cmpR op_eq (pe_fn F_law_take (hr.mono (by decide)) (by rfl) (pa_cons (pv 0) (pa_cons pe_int pa_nil))) pe_int (nomark _)))).pt (pss_cons (ps_set (i := 6) S_law_drawn_line.nd rfl (Or.inl rfl) (pe_op op_add pe_int (pe_fn F_law_take (hr.mono (by decide)) (by rfl) (pa_cons (pv 0) (pa_cons (pe_op op_sub (pv 1) pe_int) pa_nil))))) (pss_one (ps_asg (pe_ix ix_list (pv 4) (pe_op op_sub (pv 6) pe_int) (fun _ _ => rfl)) (pg_sub (pv 4) (pv 6) set_listA)))) pss_nil) (pss_one (ps_ret (pv 4)))),fun l qs H1 S F z5 z6 L1 h1 h10 nl np b1 p1 => ?_⟩
      have hll : (qs.map fun (q : Addr × Int × Int) => V.ref q.1).length = qs.length := List.length_map _
      have fin : ∀ {z5 z6 : Option V} {H2 : Hp},LineM H2 l qs → But p H H2 → Pot H2 p (k + 95) → (tRet (tVar 4)) { nx := fun _ H' => Q .non H',rt := Q } [some (.ref p),some (.int (qs.length : Int)),some (.int S),some (.int F),some (.ref l),z5,z6] H2 := fun L2 b2 p2 => ⟨_,rfl,q l qs _ L2 h1 h10 nl b2 (p2.mono (by omega))⟩
      refine ⟨_,rfl,_,_,rfl,rfl,_,rfl,ite3 (fun g1 => ?_) (fun g1 => ?_)⟩
      · have g1 : 1 < (qs.length : Int) := dec_t g1
        refine ⟨_,rfl,p,_,_,rfl,p1,by omega,⟨by decide,by decide⟩,fun r2 H2 _ _ b2 p2 => ?_⟩
        have L2' := L1.but b2 p1 np
        refine ⟨rfl,_,rfl,ite3 (fun g2 => ?_) (fun g2 => ?_)⟩
        · refine ⟨_,rfl,_,rfl,_,_,rfl,rfl,p,_,_,rfl,p2,by omega,⟨by omega,bits_le (bits_small (by omega) (by omega)) (by decide)⟩,fun r3 H3 a3 b3' b3 p3 => ⟨_,_,rfl,rfl,?_⟩⟩
          have L3 := L2'.but b3 p2 np
          obtain ⟨qa,hqa,eqa⟩ := at_crn (qs := qs) (k := 1 + r3 - 1) (by omega) (by omega)
          refine ⟨_,rfl,_,rfl,_,_,rfl,rfl,l,_,_,_,rfl,rfl,SqL.of L3.lst,eqa,_,rfl,_,rfl,l,_,_,_,rfl,rfl,L3.lst,ixN_of (by omega) (by rw [hll]; omega),fun H4 u => ?_⟩
          have e4 : (qs.map fun (q : Addr × Int × Int) => V.ref q.1).set (1 + r3).toNat (.ref qa.1) = (qs.set (1 + r3).toNat qa).map fun (q : Addr × Int × Int) => V.ref q.1 := by rw [List.map_set]
          have L4 : LineM H4 l (qs.set (1 + r3).toNat qa) := by
            refine ⟨by rw [← e4]; exact u.now,fun q hq => ?_⟩
            rcases List.mem_or_eq_of_mem_set hq with hq | rfl
            · exact ⟨u.t _ _ (L3.crn q hq).1,(L3.crn q hq).2⟩
            · have m := List.mem_of_getElem? hqa
              exact ⟨u.t _ _ (L3.crn _ m).1,(L3.crn _ m).2⟩
          have b4 : But p H H4 := fun b o nb e => u.at (fun z => by subst z; rw [nl] at e; cases e) (b3 b o nb (b2 b o nb (b1 b o nb e)))
          obtain ⟨x,y,z,ep,rest⟩ := p3
          have p4 : Pot H4 p (k + 90 + 1 + 1) := ⟨x,y,z,u.at (Ne.symm np) ep,rest⟩
          exact ⟨_,rfl,q l _ _ L4 (by rw [List.length_set]; exact h1) (by rw [List.length_set]; exact h10) nl b4 (p4.mono (by omega))⟩
        · exact fin L2' (b1.trans b2) (p2.mono (by omega))
      · exact fin L1 b1 (p1.mono (by omega))
    obtain ⟨u,hu,ru⟩ := R
    refine ⟨_,(pss_cons (ps_set (i := 1) S_law_drawn_line.nd rfl (Or.inl rfl) (pe_op op_add pe_int (pe_fn F_law_take (hr.mono (by decide)) (by rfl) (pa_cons (pv 0) (pa_cons (pe_ix ix_list (@pe_lstA _ _ _ _ (@pa_cons _ _ _ _ _ pe_int (@pa_cons _ _ _ _ _ pe_int (@pa_cons _ _ _ _ _ pe_int (@pa_cons _ _ _ _ _ pe_int (@pa_cons _ _ _ _ _ pe_int (@pa_cons _ _ _ _ _ pe_int (@pa_cons _ _ _ _ _ pe_int (@pa_cons _ _ _ _ _ pe_int pa_nil (by rfl)) (by rfl)) (by rfl)) (by rfl)) (by rfl)) (by rfl)) (by rfl)) (by rfl))) (pe_fn F_law_take (hr.mono (by decide)) (by rfl) (pa_cons (pv 0) (pa_cons pe_int pa_nil))) (fun _ _ => rfl)) pa_nil))))) (pss_cons (ps_set (i := 2) S_law_drawn_line.nd rfl (Or.inl rfl) (pe_ix ix_list (pe_lstA (pa_cons pe_int (pa_cons pe_int (pa_cons pe_int (pa_cons (pe_op op_sub (pe_op op_mulX pe_int (pe_op op_pow pe_int pe_int)) pe_int) pa_nil))))) (pe_fn F_law_take (hr.mono (by decide)) (by rfl) (pa_cons (pv 0) (pa_cons pe_int pa_nil))) (fun _ _ => rfl))) (pss_cons (ps_set (i := 3) S_law_drawn_line.nd rfl (Or.inl rfl) (pe_op op_fdivP (pv 2) pe_int)) (pss_cons (ps_set (i := 4) S_law_drawn_line.nd rfl (Or.inl rfl) (pe_lstA pa_nil)) (pss_cons (ps_for PassesOwn.never rfl (pi_range1 rfl T.z_range (pa_cons (pv 1) pa_nil)) (pg_name (i := 5) S_law_drawn_line.nd rfl (Or.inl rfl)) (pss_one (ps_expr (pe_bm PySem.F.plainAttrs_list PySem.F.slot_list_append PySem.F.type_list_append mt_appendA (pv 4) (pa_cons (pe_tupA (pa_cons (pe_op op_sub (pe_fn F_law_wide (hr.mono (by decide)) (by rfl) (pa_cons (pv 0) (pa_cons (pv 2) pa_nil))) (pv 3)) (pa_cons (pe_op op_sub (pe_fn F_law_wide (hr.mono (by decide)) (by rfl) (pa_cons (pv 0) (pa_cons (pv 2) pa_nil))) (pv 3)) pa_nil))) pa_nil))))) (pss_cons (ps_if (pt_cmpR op_eq (pe_fn F_law_take (hr.mono (by decide)) (by rfl) (pa_cons (pv 0) (pa_cons pe_int pa_nil))) pe_int (nomark _)) (pss_one (ps_setCompA (j := 4) rfl CN S_law_drawn_line.nd rfl rfl (pi_list (pv 4)) (fun fp s₀ H₀ => (pe_tupA (pa_cons (pe_ix (ix_tupK (K := K) rfl) (pv 0) pe_int (fun _ _ => rfl)) (pa_cons pe_int pa_nil)))))) pss_nil) hu)))))),?_⟩
    refine ⟨_,rfl,sz (by simp),fun pl H1 s1 f1 n1 => ?_⟩
    have np1 := Pot.ne pt n1
    have p1 := pt.same s1
    refine ⟨_,rfl,p,_,_,rfl,p1,by omega,⟨by decide,by decide⟩,fun r2 H2 a2 b2' b2 p2 => ?_⟩
    refine menuI (fun m => 2 ≤ m ∧ m ≤ 10) (b2 _ _ np1 f1) a2 (by simpa using b2') (fun v hv => ?_) fun m hm => ?_
    · simp only [List.mem_cons,List.not_mem_nil,or_false] at hv
      rcases hv with rfl | rfl | rfl | rfl | rfl | rfl | rfl | rfl <;> exact ⟨_,rfl,by decide,by decide⟩
    refine ⟨p,_,_,rfl,p2,by omega,⟨by omega,bits_le (bits_small (by omega) (by omega)) (by decide)⟩,fun r3 H3 a3 b3' b3 p3 => ⟨_,_,rfl,rfl,?_⟩⟩
    have B3 : But p H H3 := (But.of s1).trans (b2.trans b3)
    refine ⟨_,_,rfl,rfl,⟨by decide,by decide,by decide⟩,_,_,rfl,rfl,CM.l ⟨by decide,by decide⟩,_,_,rfl,rfl,sz (by simp),fun ps H4 s4 f4 n4 => ?_⟩
    have np4 := Pot.ne p3 n4
    have p4 := p3.same s4
    have e12 : (2 * (10 : Int) ^ (12 : Int).toNat - 1) = 1999999999999 := by decide +kernel
    refine ⟨_,rfl,p,_,_,rfl,p4,by omega,⟨by decide,by decide⟩,fun r5 H5 a5 b5' b5 p5 => ?_⟩
    refine menuI (fun m => 3 ≤ m ∧ m ≤ 1999999999999) (b5 _ _ np4 f4) a5 (by simpa using b5') (fun v hv => ?_) fun S hS => ?_
    · simp only [List.mem_cons,List.not_mem_nil,or_false] at hv
      rcases hv with rfl | rfl | rfl | rfl
      · exact ⟨_,rfl,by decide,by decide⟩
      · exact ⟨_,rfl,by decide,by decide⟩
      · exact ⟨_,rfl,by decide,by decide⟩
      · exact ⟨_,rfl,by rw [e12]; decide,by rw [e12]; decide⟩
    have B5 : But p H H5 := (B3.trans (But.of s4)).trans b5
    have bS : bits S ≤ 8000 := bits_le (m := 50) (bits_of (by show _ < 1125899906842624; omega)) (by decide)
    refine ⟨_,rfl,_,_,rfl,rfl,⟨by decide,by decide⟩,?_⟩
    refine ⟨sz (by simp),fun l H6 s6 f6 n6 => ?_⟩
    have npl := Pot.ne p5 n6
    have nl : H l = none := B5.none npl n6
    have p6 := p5.same s6
    refine ⟨_,rfl,_,rfl,by omega,by omega,?_⟩
    refine for_range (n := (1 + r3).toNat) (lo := 0) (fun i σ H7 => ∃ (z5 z6 : Option V) (qs : Crn),σ = [some (.ref p),some (.int (1 + r3)),some (.int S),some (.int (S / 2)),some (.ref l),z5,z6] ∧ qs.length = i ∧ LineM H7 l qs ∧ But p H H7 ∧ Pot H7 p (k + 3 + 8 * (i : Int)))
      ⟨_,_,[],rfl,rfl,⟨f6,fun q h => nomatch h⟩,B5.trans (But.of s6),p6.mono (by omega)⟩ ?_ ?_
    · rintro i σ H7 hi ⟨z5,z6,qs,rfl,hl,L7,b7,p7⟩
      have hi10 : i < 10 := by omega
      refine ⟨_,rfl,.inl ⟨rfl,_,SqL.of L7.lst⟩,?_⟩
      refine ⟨_,rfl,_,rfl,p,_,_,rfl,p7,by omega,⟨by omega,bS⟩,fun r8 H8 a8 b8' b8 p8 => ⟨_,rfl,_,_,rfl,rfl,?_⟩⟩
      refine ⟨_,rfl,_,rfl,p,_,_,rfl,p8,by omega,⟨by omega,bS⟩,fun r9 H9 a9 b9' b9 p9 => ⟨_,rfl,_,_,rfl,rfl,sz (by simp),fun pp H10 s10 f10 n10 => ?_⟩⟩
      have L10 := ((L7.but b8 p7 npl).but b9 p8 npl).mono s10
      refine ⟨l,_,_,rfl,rfl,L10.lst,small1000 (by rw [List.length_map]; omega),fun H11 u => ⟨_,_,qs ++ [(pp,r8 - S / 2,r9 - S / 2)],rfl,by simp [hl],⟨by rw [u.now]; simp,fun q hq => ?_⟩,fun b o nb e => ?_,?_⟩⟩
      · rcases List.mem_append.mp hq with hq | hq
        · exact ⟨u.t _ _ (L10.crn q hq).1,(L10.crn q hq).2⟩
        · rw [List.mem_singleton.mp hq]
          refine ⟨u.t _ _ f10,?_,?_⟩ <;> (show -999999999999 ≤ _ ∧ _ ≤ 999999999999; dsimp only; omega)
      · exact u.at (fun z => by subst z; rw [nl] at e; cases e) (s10 _ _ (b9 b o nb (b8 b o nb (b7 b o nb e))))
      · obtain ⟨x,y,z,ep,rest⟩ := (p9.same s10).mono (k' := k + 3 + 8 * ((i + 1 : Nat) : Int)) (by omega)
        exact ⟨x,y,z,u.at (Ne.symm npl) ep,rest⟩
    · rintro σ H7 ⟨z5,z6,qs,rfl,hl,L7,b7,p7⟩
      have hmany : (qs.length : Int) = 1 + r3 := by omega
      refine ⟨_,rfl,p,_,_,rfl,p7,by omega,⟨by decide,by decide⟩,fun r8 H8 _ _ b8 p8 => ?_⟩
      have L8 := L7.but b8 p7 npl
      rw [← hmany]
      refine ⟨rfl,_,rfl,ite3 (fun g1 => ?_) (fun g1 => ?_)⟩
      · refine ⟨_,rfl,l,rfl,⟨_,SqL.of L8.lst⟩,comp_R (SqL.of L8.lst) (by rw [List.length_map]; omega) (fun _ v H => ∃ p x,v = .ref p ∧ H p = some (.tup [.int x,.int 0]) ∧ Sm x) (fun i v H H' st ⟨p,x,e,c,s⟩ => ⟨p,x,e,st _ _ c,s⟩) ?_ ?_⟩
        · intro i x H9 Kc hx s9 kk
          rw [List.getElem?_map] at hx
          obtain ⟨q,hq,rfl⟩ := Option.map_eq_some_iff.mp hx
          have c := s9 _ _ (L8.crn q (List.mem_of_getElem? hq)).1
          refine ⟨_,rfl,q.1,_,_,_,rfl,rfl,SqT.of c,rfl,sz (by simp),fun pp H10 s10 f10 n10 => kk _ _ s10 ⟨pp,_,rfl,f10,(L8.crn q (List.mem_of_getElem? hq)).2.1⟩⟩
        · intro l2 ys H9 nl2 s9 f9 hly hr
          rw [List.length_map] at hly
          have np2 := Pot.ne p8 nl2
          have ex : ∃ rs : Crn,rs.length = qs.length ∧ LineM H9 l2 rs := by
            have hch : ∀ ys : List V,(∀ y ∈ ys,∃ (p : Addr) (x : Int),y = .ref p ∧ H9 p = some (.tup [.int x,.int 0]) ∧ Sm x) → ∃ rs : Crn,ys = rs.map (fun q => V.ref q.1) ∧ ∀ q ∈ rs,H9 q.1 = some (.tup [.int q.2.1,.int q.2.2]) ∧ Sm q.2.1 ∧ Sm q.2.2 := by
              intro ys
              induction ys with
              | nil => exact fun _ => ⟨[],rfl,fun q h => nomatch h⟩
              | cons y ys ih =>
                intro h
                obtain ⟨rs,e,hrs⟩ := ih fun z hz => h z (List.mem_cons_of_mem _ hz)
                obtain ⟨pp,x,rfl,c,sx⟩ := h y List.mem_cons_self
                refine ⟨(pp,x,0) :: rs,by rw [e]; rfl,fun q hq => ?_⟩
                rcases List.mem_cons.mp hq with rfl | hq
                · exact ⟨c,sx,by show -999999999999 ≤ (0 : Int) ∧ (0 : Int) ≤ 999999999999; decide⟩
                · exact hrs q hq
            obtain ⟨rs,e,hrs⟩ := hch ys fun y hy => by
              obtain ⟨i,hi⟩ := List.getElem?_of_mem hy
              exact hr i y hi
            refine ⟨rs,?_,⟨by rw [f9,e],hrs⟩⟩
            rw [e,List.length_map] at hly
            exact hly
          obtain ⟨rs,hrl,L9⟩ := ex
          have := ru l2 rs H9 S (S / 2) z5 z6 L9 (by omega) (by omega) ((b7.trans b8).none np2 nl2) np2 ((b7.trans b8).trans (But.of s9)) ((p8.same s9).mono (by omega))
          rw [hrl] at this
          exact this
      · exact ru l qs H8 S (S / 2) z5 z6 L8 (by omega) (by omega) nl npl (b7.trans b8) (p8.mono (by omega))
theorem S_look_at_way : FnScope ["way"] ["way"] (defScope (top 41)) := ⟨rfl,rfl,rfl,by decide +kernel,rfl,by decide +kernel,by decide +kernel⟩
theorem fn_look_at_way {C pW : Addr} (D_look_at_way : Df K mg "look_at_way" (top 41)) (O_NoWay : ExcC K mg "NoWay" C) (G_WAYS : mg "WAYS" = some (.ref pW)) (hW : ∀ H,SqT K H pW [.str wOn,.str wPart,.str wFree,.str wHops]) (T : Txt mg) : Fx P w K mg base "look_at_way" ["way"] 1 [] (spWayS C) := by
  refine D_look_at_way.fx S_look_at_way (fun _ _ _ _ _ _ us hl => by obtain ⟨_,rfl⟩ := len1 hl; rfl) (fun vs H Q E h => ?_) (fun f cdv A outer s H vs Q E hr h => ?_)
  · obtain ⟨x,t,rfl,_⟩ := h
    rfl
  · obtain ⟨x,t,rfl,kn,h⟩ := h
    refine ⟨_,(pss_one (ps_if (pw_or (pt_not (pt_val (pe_callB call_isinst (by rfl) T.z_isinstance bt_isinstance (pa_cons (pv 0) (pa_cons (pe_ty T.z_str bt_str) pa_nil))))) (pw_or1 (pt_cmpR op_notIn_seq (pv 0) (pe_glob (v := .ref _) (by rfl) G_WAYS rfl) (by rfl)))).pt (pss_one (ps_raise O_NoWay (by rfl))) pss_nil)),?_⟩
    refine ⟨_,rfl,x,t,"str",rfl,kn,nice_str,_,rfl,?_⟩
    rcases h with ⟨w,rfl,hw,q⟩ | ⟨hn,hE⟩
    · cases kn
      refine iteFalse (by decide) ?_
      refine ⟨_,rfl,pW,_,rfl,.inr (hW _),rfl,rfl,_,rfl,iteFalse ?_ q⟩
      rcases hw with rfl | rfl | rfl | rfl <;> decide
    · cases hs : isSub t "str" with
      | false => exact iteT hE
      | true =>
        obtain ⟨w,rfl⟩ : ∃ w,x = .str w := by
          cases kn with
          | str w => exact ⟨w,rfl⟩
          | non => exact absurd hs (by decide)
          | bl b => exact absurd hs (by decide)
          | int i => exact absurd hs (by decide)
          | lst e => exact absurd hs (by decide)
          | tup e => exact absurd hs (by decide)
          | dict e => exact absurd hs (by decide)
        refine iteF ?_
        refine ⟨_,rfl,pW,_,rfl,.inr (hW _),rfl,rfl,_,rfl,iteTrue ?_ hE⟩
        have hn' := hn w rfl
        have e : inV (.str w) [.str wOn,.str wPart,.str wFree,.str wHops] = false := by
          rw [Bool.eq_false_iff]
          intro z
          apply hn'
          have z' : (wOn == w || (wPart == w || (wFree == w || (wHops == w || false)))) = true := z
          simp only [Bool.or_eq_true,beq_iff_eq,Bool.false_eq_true,or_false] at z'
          rcases z' with h | h | h | h
          · exact .inl h.symm
          · exact .inr (.inl h.symm)
          · exact .inr (.inr (.inl h.symm))
          · exact .inr (.inr (.inr h.symm))
        show (if true = true then !inV (.str w) _ else _) = true
        rw [e]
        rfl
theorem at_lastP (f : Pr) (r : List Pr) : atI (prs (f :: r)) (-1) = some (.ref ((f :: r).getLast (by simp)).p) := by
  have h : prs (f :: r) = prs ((f :: r).dropLast) ++ [V.ref ((f :: r).getLast (by simp)).p] := by
    unfold prs
    rw [← List.map_singleton (f := fun (q : Pr) => V.ref q.p),← List.map_append,List.dropLast_concat_getLast]
  rw [h]
  exact atI_last _ _
theorem steps_iff {w : Str} : ∀ {ps : List Pr},stepsB w ps = true ↔ ∀ (j : Nat) u v,ps[j]? = some u → ps[j + 1]? = some v → stepB w u v = true
  | [] => by simp [stepsB]
  | [u] => by simp [stepsB]
  | u :: v :: r => by
    unfold stepsB
    rw [Bool.and_eq_true,steps_iff (ps := v :: r)]
    constructor
    · rintro ⟨h1,h2⟩ j x y ex ey
      cases j with
      | zero => cases ex; cases ey; exact h1
      | succ j => exact h2 j x y (by simpa using ex) (by simpa using ey)
    · intro h
      exact ⟨h 0 u v rfl rfl,fun j x y ex ey => h (j + 1) x y (by simpa using ex) (by simpa using ey)⟩
def notComp (s : Stmt) : Expr := match s with
  | .If (.BoolOp _ [_,.UnaryOp _ e _] _) _ _ _ => e
  | _ => .Name "" ⟨0,0,0,0⟩
theorem gcd_step' {a b : Int} (hb : 0 < b) : Int.gcd b (a % b) = Int.gcd a b := by
  have e : a = a % b + a / b * b := by
    have := Int.emod_add_mul_ediv a b
    rw [Int.mul_comm] at this
    omega
  have h := Int.gcd_add_mul_right_right b (a % b) (a / b)
  rw [← e] at h
  rw [Int.gcd_comm a b,h]
def spDiv : Sp := fun vs H Q _ => ∃ a b : Int,vs = [.int a,.int b] ∧ 0 ≤ b ∧ Q (.int (Int.gcd a b : Int)) H
def spLRat : Sp := fun vs H Q _ => ∃ a b : Int,vs = [.int a,.int b] ∧ (0 < b ∧ bits b ≤ 2000) ∧ ∀ (p : Addr) (t u : Int) (H' : Hp),Frac a b t u → t = a / (Int.gcd a b : Int) → u = b / (Int.gcd a b : Int) → Same H H' → H' p = some (.tup [.int t,.int u]) → H p = none → Q (.ref p) H'
def spSpot : Sp := fun vs H Q _ => ∃ (p : Addr) (n k : Int),vs = [.ref p,.int n] ∧ Pot H p k ∧ k ≤ 800000 ∧ (0 ≤ n ∧ n ≤ 100) ∧ ∀ (z : Addr) (t b : Int) (H' : Hp),Low t b → n * b ≤ t → t ≤ (n + 1) * b → bits t ≤ 200 → bits b ≤ 60 → But p H H' → H' z = some (.tup [.int t,.int b]) → Pot H' p (k + 10) → Q (.ref z) H'
structure Dp (H : Hp) (z : Addr) (t b n : Int) (w : Str) : Prop where
  at_ : H z = some (.tup [.int t,.int b])
  low : Low t b
  n0 : 0 ≤ t
  n1 : t ≤ n * b
  bt : bits t ≤ 200
  bb : bits b ≤ 60
  hop : w = wHops → b = 1
theorem Dp.t' {H H' : Hp} {z : Addr} {t b n : Int} {w : Str} (d : Dp H z t b n w) (s : SameT H H') : Dp H' z t b n w := ⟨s _ _ d.at_,d.low,d.n0,d.n1,d.bt,d.bb,d.hop⟩
def spAny : Sp := fun vs H Q _ => ∃ (p : Addr) (n k : Int) (w : Str),vs = [.ref p,.int n,.str w] ∧ Pot H p k ∧ k ≤ 700000 ∧ (0 ≤ n ∧ n ≤ 50) ∧ ∀ (z : Addr) (t b : Int) (H' : Hp),Dp H' z t b n w → But p H H' → Pot H' p (k + 20) → Q (.ref z) H'
def spAhead : Sp := fun vs H Q _ => ∃ (p z0 : Addr) (t0 b0 n k : Int) (w : Str),vs = [.ref p,.ref z0,.int n,.str w] ∧ Pot H p k ∧ k ≤ 700000 ∧ (0 ≤ n ∧ n ≤ 50) ∧ Dp H z0 t0 b0 n w ∧ ∀ (z : Addr) (t b : Int) (H' : Hp),Dp H' z t b n w → goB w t0 b0 t b = true → But p H H' → Pot H' p (k + 20) → Q (.ref z) H'
def homeT (t b n : Int) : Int := if t / b + 1 < n then t / b + 1 else n
def spHome : Sp := fun vs H Q _ => ∃ (z0 : Addr) (t0 b0 n : Int) (w : Str),vs = [.ref z0,.int n] ∧ (0 ≤ n ∧ n ≤ 50) ∧ Dp H z0 t0 b0 n w ∧ ∀ (z : Addr) (H' : Hp),Dp H' z (homeT t0 b0 n) 1 n w → goB w t0 b0 (homeT t0 b0 n) 1 = true → Same H H' → Q (.ref z) H'
theorem share_of {k a b c d : Int} (hb : 0 < b) (hd : 0 < d) (h1 : k * b ≤ a) (h2 : a ≤ (k + 1) * b) (h3 : k * d ≤ c) (h4 : c ≤ (k + 1) * d) : shareB a b c d = true := by
  unfold shareB
  split
  · have q := fl_ge hd h3
    have q2 : (k + 1) * b ≤ (c / d + 1) * b := Int.mul_le_mul_of_nonneg_right (by omega) (by omega)
    rw [decide_eq_false (by rw [Int.mul_one]; omega)]
    rfl
  · have q := fl_ge hb h1
    have q2 : (k + 1) * d ≤ (a / b + 1) * d := Int.mul_le_mul_of_nonneg_right (by omega) (by omega)
    rw [decide_eq_false (by rw [Int.mul_one]; omega)]
    rfl
theorem go_of {w : Str} {k a b c d : Int} (hb : 0 < b) (hd : 0 < d) (h1 : k * b ≤ a) (h2 : a ≤ (k + 1) * b) (h3 : k * d ≤ c) (h4 : c ≤ (k + 1) * d) (hw : w = wHops → b = 1 ∧ d = 1 ∧ (c - a = 0 ∨ c - a = 1)) (hf : w ≠ wFree → ¬ c * b < a * d) : goB w a b c d = true := by
  unfold goB
  split
  · rename_i h
    obtain ⟨e1,e2,e3⟩ := hw h
    rw [decide_eq_true e1,decide_eq_true e2,Bool.true_and,Bool.true_and,Bool.or_eq_true,decide_eq_true_eq,decide_eq_true_eq]
    exact e3
  · split
    · exact share_of hb hd h1 h2 h3 h4
    · rename_i h
      rw [decide_eq_false (hf h),share_of hb hd h1 h2 h3 h4]
      rfl
theorem go_self {w : Str} {a b : Int} (hb : 0 < b) (hw : w = wHops → b = 1) : goB w a b a b = true :=
  go_of (k := a / b) hb hb (fl_le hb) (by have := fl_lt (a := a) hb; omega) (fl_le hb) (by have := fl_lt (a := a) hb; omega) (fun h => ⟨hw h,hw h,.inl (by omega)⟩) (fun _ => by omega)
theorem fl_le_n {t b n : Int} (hb : 0 < b) (h : t ≤ n * b) : t / b ≤ n := Int.ediv_le_of_le_mul hb h
theorem fl_full {t b n : Int} (h : Low t b) (h1 : t ≤ n * b) (e : t / b = n) : t = n ∧ b = 1 := by
  have hb : 0 < b := h.pos
  have q := fl_le (a := t) hb
  rw [e] at q
  have et : t = n * b := by omega
  have z := low_unique h (⟨by decide,Int.gcd_one⟩ : Low n 1) (by rw [et]; rw [Int.mul_one])
  exact z
theorem homeT_le (t b n : Int) : homeT t b n ≤ n := by unfold homeT; split <;> omega
theorem home_go {w : Str} {t b n : Int} (h : Low t b) (h0 : 0 ≤ t) (h1 : t ≤ n * b) (hw : w = wHops → b = 1) : goB w t b (homeT t b n) 1 = true ∧ 0 ≤ homeT t b n := by
  have hb : 0 < b := h.pos
  have f0 := fl_nn hb h0
  have f1 := fl_le_n hb h1
  have g1 := fl_le (a := t) hb
  have g2 := fl_lt (a := t) hb
  by_cases hlt : t / b + 1 ≤ n
  · have e : homeT t b n = t / b + 1 := by unfold homeT; split <;> omega
    rw [e]
    refine ⟨go_of (k := t / b) hb (by decide) g1 (by omega) (by omega) (by omega) (fun z => ?_) (fun _ => by rw [Int.mul_one]; omega),by omega⟩
    have eb := hw z
    subst eb
    rw [Int.ediv_one]
    exact ⟨rfl,rfl,.inr (by omega)⟩
  · have ef : t / b = n := by omega
    obtain ⟨rfl,rfl⟩ := fl_full h h1 ef
    have e : homeT t 1 t = t := by unfold homeT; rw [Int.ediv_one]; split <;> omega
    rw [e]
    exact ⟨go_self (by decide) (fun _ => rfl),h0⟩
theorem S_law_moved : FnScope ["pot","number"] ["pot","number"] (defScope (top 79)) := ⟨rfl,rfl,rfl,by decide +kernel,rfl,by decide +kernel,by decide +kernel⟩
theorem fn_law_moved (D_law_moved : Df K mg "_law_moved" (top 79)) (F_law_take : Fn P w K mg base "_law_take" ["pot","size"] 1 Dr.spTk) (T : Txt mg) : Fn P w K mg base "_law_moved" ["pot","number"] 2 spMoved := by
  refine D_law_moved.fn S_law_moved (fun _ _ _ _ _ _ us hl => by obtain ⟨_,_,rfl⟩ := len2 hl; rfl) (fun vs H Q E h => ?_) (fun f cdv A outer s H vs Q E hr h => ?_)
  · obtain ⟨p,n,k,rfl,_⟩ := h
    rfl
  · obtain ⟨p,n,k,rfl,pt,hk,q⟩ := h
    refine ⟨_,(pss_one (ps_ret (pe_callB (call_max2 rfl) (by rfl) T.z_max bt_max (pa_cons (pe_op op_sub pe_int (pe_op op_pow pe_int pe_int)) (pa_cons (pe_callB (call_min2 rfl) (by rfl) T.z_min bt_min (pa_cons (pe_op op_sub (pe_op op_pow pe_int pe_int) pe_int) (pa_cons (pe_op op_sub (pe_op op_add (pv 1) (pe_fn F_law_take (hr.mono (by decide)) (by rfl) (pa_cons (pv 0) (pa_cons pe_int pa_nil)))) pe_int) pa_nil))) pa_nil))))),?_⟩
    have e12 : (10 : Int) ^ (12 : Int).toNat = 1000000000000 := by decide +kernel
    refine ⟨_,_,rfl,rfl,⟨by decide,by decide,by decide⟩,_,_,rfl,rfl,_,_,rfl,rfl,⟨by decide,by decide,by decide⟩,_,_,rfl,rfl,_,rfl,_,rfl,p,_,_,rfl,pt,by omega,⟨by decide,by decide⟩,fun r H1 a1 b1 b2 p2 => ?_⟩
    refine ⟨_,_,rfl,rfl,_,_,rfl,rfl,_,_,rfl,_,_,rfl,q _ _ ?_ b2 p2⟩
    show -999999999999 ≤ _ ∧ _ ≤ 999999999999
    rw [e12]
    constructor <;> (split <;> split <;> omega)
theorem S_law_drawn_other : FnScope ["pot","line","way"] ["pot","line"] (defScope (top 80)) := ⟨rfl,rfl,rfl,by decide +kernel,rfl,by decide +kernel,by decide +kernel⟩
theorem fn_law_drawn_other (D_law_drawn_other : Df K mg "_law_drawn_other" (top 80)) (F_law_take : Fn P w K mg base "_law_take" ["pot","size"] 1 Dr.spTk) (F_law_moved : Fn P w K mg base "_law_moved" ["pot","number"] 2 spMoved) (F_law_drawn_line : Fn P w K mg base "_law_drawn_line" ["pot"] 3 Dr.spDLine) (T : Txt mg) : Fn P w K mg base "_law_drawn_other" ["pot","line"] 4 spOther := by
  refine D_law_drawn_other.fn S_law_drawn_other (fun _ _ _ _ _ _ us hl => by obtain ⟨_,_,rfl⟩ := len2 hl; rfl) (fun vs H Q E h => ?_) (fun f cdv A outer s H vs Q E hr h => ?_)
  · obtain ⟨p,l,qs,k,rfl,_⟩ := h
    rfl
  · obtain ⟨p,l,qs,k,rfl,pt,hk,L,⟨hq1,hq10⟩,q⟩ := h
    have CN : CompN (cxOf CX0 P w K mg base ["pot","line","way"] "_law_drawn_other" (defScope (top 80)) f cdv A outer s H E).nox (compScope (retExpr (ifBody ((defBody (top 80)).getD 1 (.Pass ⟨0,0,0,0⟩))))) [("pot",s.heap.objs.size + 1)] "corner" [("pot",0)] :=
      ⟨by rfl,rfl,by decide +kernel,by decide +kernel,rfl,(fun p hp => by rw [List.mem_singleton.mp hp]; rfl),by rfl,by decide +kernel,(fun p hp => by rw [List.mem_singleton.mp hp]; exact ⟨rfl,rfl,.inr (.inl rfl),rfl,rfl⟩),⟨rfl,rfl⟩,rfl⟩
    refine ⟨_,(pss_cons (ps_set (i := 2) S_law_drawn_other.nd rfl (Or.inl rfl) (pe_fn F_law_take (hr.mono (by decide)) (by rfl) (pa_cons (pv 0) (pa_cons pe_int pa_nil)))) (pss_cons (ps_if (pt_cmpR op_eq (pv 2) pe_int (nomark _)) (pss_one (ps_ret (pe_compA rfl CN (pi_list (pv 1)) (fun fp s₀ H₀ => (pe_tupA (pa_cons (pe_fn F_law_moved (hr.mono (by decide)) (by rfl) (pa_cons (pv 1) (pa_cons (pe_ix (ix_tupK (K := K) rfl) (pv 0) pe_int (fun _ _ => rfl)) pa_nil))) (pa_cons (pe_fn F_law_moved (hr.mono (by decide)) (by rfl) (pa_cons (pv 1) (pa_cons (pe_ix (ix_tupK (K := K) rfl) (pv 0) pe_int (fun _ _ => rfl)) pa_nil))) pa_nil))))))) pss_nil) (pss_cons (ps_if (pt_cmpR op_eq (pv 2) pe_int (nomark _)) (pss_one (ps_ret (pe_list_rev rfl rfl T.z_list rfl T.z_reversed (pv 1)))) pss_nil) (pss_one (ps_ret (pe_fn F_law_drawn_line (hr.mono (by decide)) (by rfl) (pa_cons (pv 0) pa_nil))))))),?_⟩
    have npl : l ≠ p := fun z => by
      obtain ⟨x,y,w,ep,_⟩ := pt
      subst z
      have e := L.lst
      rw [ep] at e
      cases qs with
      | nil => exact absurd hq1 (by simp)
      | cons c cs =>
        have e' := congrArg (fun o => match o with | some (HO.lst (V.ref _ :: _)) => true | _ => false) e
        exact absurd e' (by simp)
    have hll : (qs.map fun (q : Addr × Int × Int) => V.ref q.1).length = qs.length := List.length_map _
    refine ⟨_,rfl,p,_,_,rfl,pt,by omega,⟨by decide,by decide⟩,fun r1 H1 _ _ b1 p1 => ?_⟩
    have L1 := L.but b1 pt npl
    refine ⟨_,rfl,rfl,_,rfl,ite3 (fun h1 => ?_) (fun h1 => ?_)⟩
    · refine ⟨_,rfl,l,rfl,⟨_,SqL.of L1.lst⟩,fun r nr => ?_⟩
      have npr := Pot.ne p1 nr
      have nlr : l ≠ r := ne_of_none L1.lst nr
      refine comp_list (K := K) (a := l) (xs := qs.map fun (q : Addr × Int × Int) => V.ref q.1) (l := r) (fv := [("pot",0)]) (σ := [some (.ref p),some (.ref l),some (.int r1)]) (Qp := fun H2 => Q (.ref r) H2) (fun i acc H2 => ∃ rs : Crn,i ≤ qs.length ∧ acc = rs.map (fun z => V.ref z.1) ∧ rs.length = i ∧ (∀ z ∈ rs,H2 z.1 = some (.tup [.int z.2.1,.int z.2.2]) ∧ Sm z.2.1 ∧ Sm z.2.2) ∧ But p H1 H2 ∧ Pot H2 p (k + 1 + 2 * (i : Int)) ∧ H2 r = some (.lst acc))
        ⟨[],Nat.zero_le _,rfl,rfl,(fun z h => nomatch h),But.of (Same.new nr),by simpa using p1.same (Same.new nr),upd_same⟩ ?_ ?_ ?_
      · rintro i acc H2 hi ⟨rs,hi',rfl,hl,_,b2,_,e3⟩
        exact ⟨SqL.of (b2 _ _ npl L1.lst),e3,small1000 (by rw [List.length_map]; omega)⟩
      · rintro i y acc H2 Kc hy ⟨rs,hi,rfl,hl,hrs,b2,p2,e3⟩ kk
        rw [List.getElem?_map] at hy
        obtain ⟨qq,hqi,rfl⟩ := Option.map_eq_some_iff.mp hy
        have hlt : i < qs.length := (List.getElem?_eq_some_iff.mp hqi).1
        have c := b2.t p1 _ _ (L1.crn qq (List.mem_of_getElem? hqi)).1
        refine ⟨_,rfl,_,rfl,qq.1,_,_,_,rfl,rfl,SqT.of c,rfl,p,_,_,rfl,p2,by omega,fun x3 H3 sm3 b3 p3 => ?_⟩
        have c3 := b3.t p2 _ _ c
        refine ⟨_,rfl,_,rfl,qq.1,_,_,_,rfl,rfl,SqT.of c3,rfl,p,_,_,rfl,p3,by omega,fun x4 H4 sm4 b4 p4 => ?_⟩
        refine ⟨sz (by simp),fun pt' H5 s5 f5 n5 => ?_⟩
        have e5 := s5 _ _ (b4 _ _ npr (b3 _ _ npr e3))
        refine kk (.ref pt') H5 e5 ⟨rs ++ [(pt',x3,x4)],hlt,by rw [List.map_append]; rfl,by simp [hl],fun z hz => ?_,fun b o nb e => ?_,?_,upd_same⟩
        · have u := SameT.upd (ys := (rs.map fun z => V.ref z.1) ++ [V.ref pt']) e5
          rcases List.mem_append.mp hz with hz | hz
          · exact ⟨u _ _ (s5 _ _ (b4.t p3 _ _ (b3.t p2 _ _ (hrs z hz).1))),(hrs z hz).2⟩
          · rw [List.mem_singleton.mp hz]
            exact ⟨u _ _ f5,sm3,sm4⟩
        · by_cases hbr : b = r
          · subst hbr
            rw [nr] at e
            cases e
          · rw [upd_ne hbr]
            exact s5 _ _ (b4 b o nb (b3 b o nb (b2 b o nb e)))
        · obtain ⟨x,y,z,ep,rest⟩ := (p4.same s5).mono (k' := k + 1 + 2 * ((i + 1 : Nat) : Int)) (by omega)
          exact ⟨x,y,z,by rw [upd_ne (Ne.symm npr)]; exact ep,rest⟩
      · rintro acc H2 ⟨rs,_,rfl,hl,hrs,b2,p2,e3⟩
        rw [hll] at hl
        exact q r rs H2 ⟨e3,hrs⟩ (by omega) (by omega) (b1.none npr nr) (b1.trans b2)
    · refine ⟨_,rfl,rfl,_,rfl,ite3 (fun h2 => ?_) (fun h2 => ?_)⟩
      · refine ⟨_,rfl,l,_,rfl,SqL.of L1.lst,fun r H2 s2 f2 n2 => ?_⟩
        have npr := Pot.ne p1 n2
        have er : (qs.map fun (q : Addr × Int × Int) => V.ref q.1).reverse = qs.reverse.map fun (q : Addr × Int × Int) => V.ref q.1 := by rw [List.map_reverse]
        rw [er] at f2
        exact q r qs.reverse H2 ⟨f2,fun z hz => ⟨s2 _ _ (L1.crn z (List.mem_reverse.mp hz)).1,(L1.crn z (List.mem_reverse.mp hz)).2⟩⟩ (by rw [List.length_reverse]; exact hq1) (by rw [List.length_reverse]; exact hq10) (b1.none npr n2) (b1.trans (But.of s2))
      · refine ⟨_,rfl,p,_,rfl,p1,by omega,fun r rs H2 L2 h1' h2' n2 b2 p2 => ?_⟩
        have npr := Pot.ne p1 n2
        exact q r rs H2 L2 h1' h2' (b1.none npr n2) (b1.trans b2)
theorem S_law_lines : FnScope ["script","one"] ["script"] (defScope (top 81)) := ⟨rfl,rfl,rfl,by decide +kernel,rfl,by decide +kernel,by decide +kernel⟩
theorem fn_law_lines (D_law_lines : Df K mg "_law_lines" (top 81)) (F_law_cell_at : Fn P w K mg base "_law_cell_at" ["script","k"] 1 (Dr.spCell K)) (F_law_begun : Fn P w K mg base "_law_begun" ["cell"] 1 Dr.spBegun) (F_law_drawn_line : Fn P w K mg base "_law_drawn_line" ["pot"] 3 Dr.spDLine) (F_law_drawn_other : Fn P w K mg base "_law_drawn_other" ["pot","line"] 4 spOther) : Fn P w K mg base "_law_lines" ["script"] 5 (spLines K) := by
  refine D_law_lines.fn S_law_lines (fun _ _ _ _ _ _ us hl => by obtain ⟨_,rfl⟩ := len1 hl; rfl) (fun vs H Q E h => ?_) (fun f cdv A outer s H vs Q E hr h => ?_)
  · obtain ⟨sa,ss,rfl,_⟩ := h
    rfl
  · obtain ⟨sa,ss,rfl,hS,q⟩ := h
    refine ⟨_,(pss_cons (ps_set (i := 1) S_law_lines.nd rfl (Or.inl rfl) (pe_fn F_law_drawn_line (hr.mono (by decide)) (by rfl) (pa_cons (pe_fn F_law_begun (hr.mono (by decide)) (by rfl) (pa_cons (pe_fn F_law_cell_at (hr.mono (by decide)) (by rfl) (pa_cons (pv 0) (pa_cons pe_int pa_nil))) pa_nil)) pa_nil))) (pss_one (ps_ret (pe_tupA (pa_cons (pv 1) (pa_cons (pe_fn F_law_drawn_other (hr.mono (by decide)) (by rfl) (pa_cons (pe_fn F_law_begun (hr.mono (by decide)) (by rfl) (pa_cons (pe_fn F_law_cell_at (hr.mono (by decide)) (by rfl) (pa_cons (pv 0) (pa_cons pe_int pa_nil))) pa_nil)) (pa_cons (pv 1) pa_nil))) pa_nil)))))),?_⟩
    refine ⟨_,rfl,sa,ss,0,rfl,hS,by decide,fun c0 => ?_⟩
    refine ⟨c0,rfl,fun p0 H0 s0 n0 pt0 => ?_⟩
    refine ⟨p0,0,rfl,pt0,by decide,fun l qs H1 L1 h1 h10 nl b1 _ => ?_⟩
    have s1 : Same H H1 := b1.same s0 n0
    refine ⟨_,rfl,_,rfl,sa,ss,1,rfl,s1.seq hS,by decide,fun c1 => ?_⟩
    refine ⟨c1,rfl,fun p2 H2 s2 n2 pt2 => ⟨_,rfl,p2,l,qs,0,rfl,pt2,by decide,L1.mono s2,⟨h1,h10⟩,fun r rs H3 L3 h3 h30 nr b3 => ?_⟩⟩
    have nlp : l ≠ p2 := ne_of_none L1.lst n2
    have s3 : Same H1 H3 := b3.same s2 n2
    have L3' : LineM H3 l qs := L1.mono s3
    refine ⟨sz (by simp),fun t H4 s4 f4 n4 => ?_⟩
    exact q t l r qs rs H4 (s1.trans (s3.trans s4)) f4 (L3'.mono s4) ⟨h1,h10⟩ (L3.mono s4) ⟨h3,h30⟩ (s0.free nl) (s1.free (s2.free nr)) (ne_of_none (s2 _ _ L1.lst) nr)
theorem S_law_divisor : FnScope ["one","other"] ["one","other"] (defScope (top 82)) := ⟨rfl,rfl,rfl,by decide +kernel,rfl,by decide +kernel,by decide +kernel⟩
theorem fn_law_divisor (D_law_divisor : Df K mg "_law_divisor" (top 82)) (T : Txt mg) : Fn P w K mg base "_law_divisor" ["one","other"] 1 spDiv := by
  refine D_law_divisor.fn S_law_divisor (fun _ _ _ _ _ _ us hl => by obtain ⟨_,_,rfl⟩ := len2 hl; rfl) (fun vs H Q E h => ?_) (fun f cdv A outer s H vs Q E hr h => ?_)
  · obtain ⟨a,b,rfl,_⟩ := h
    rfl
  · obtain ⟨a,b,rfl,hb,q⟩ := h
    refine ⟨_,(pss_cons (ps_while PassesOwn.never (pt_cmpR op_ne (pv 1) pe_int (nomark _)) (pss_one (ps_par (i := 0) (j := 1) rfl S_law_divisor.nd rfl rfl (by decide) rfl rfl (pa_cons (pv 1) (pa_cons (pe_op op_mod (pv 0) (pv 1)) pa_nil)) (by rfl)))) (pss_one (ps_ret (pe_callB call_abs (by rfl) T.z_abs bt_abs (pa_cons (pv 0) pa_nil))))),?_⟩
    refine while_by (fun σ H' => ∃ x y : Int,σ = [some (.int x),some (.int y)] ∧ H' = H ∧ 0 ≤ y ∧ Int.gcd x y = Int.gcd a b)
      (fun σ _ => match σ with | [_,some (.int y)] => y.toNat | _ => 0) ⟨_,_,rfl,rfl,hb,rfl⟩ ?_ ?_
    · rintro σ H' ⟨x,y,rfl,rfl,hy,hg⟩
      refine ⟨_,rfl,rfl,_,rfl,?_⟩
      refine ite3 (fun hc => ?_) (fun hc => ?_)
      · have hy0 : ¬ y = 0 := by simpa using hc
        have hy1 : 0 < y := by omega
        refine ⟨_,rfl,_,rfl,_,rfl,x,y,rfl,rfl,hy1,_,_,rfl,⟨y,x % y,rfl,rfl,Int.emod_nonneg _ hy0,?_⟩,?_⟩
        · rw [gcd_step' hy1]
          exact hg
        · have h1 := Int.emod_lt_of_pos x hy1
          have h2 := Int.emod_nonneg x hy0
          show (x % y).toNat < y.toNat
          omega
      · have hy0 : y = 0 := by simpa using hc
        subst hy0
        refine ⟨_,rfl,x,rfl,?_⟩
        have e : (Int.gcd a b : Int) = (if x < 0 then -x else x) := by rw [← hg,Int.gcd_zero]; split <;> omega
        rw [e] at q
        exact q
    · rintro σ H' Q1 Q2 hq ⟨v,e,hs,k,ek,r⟩
      exact ⟨v,e,hs,k,ek,hq _ _ r⟩
theorem S_law_ratio : FnScope ["top","bottom","by"] ["top","bottom"] (defScope (top 83)) := ⟨rfl,rfl,rfl,by decide +kernel,rfl,by decide +kernel,by decide +kernel⟩
theorem fn_law_ratio (D_law_ratio : Df K mg "_law_ratio" (top 83)) (F_law_divisor : Fn P w K mg base "_law_divisor" ["one","other"] 1 spDiv) : Fn P w K mg base "_law_ratio" ["top","bottom"] 2 spLRat := by
  refine D_law_ratio.fn S_law_ratio (fun _ _ _ _ _ _ us hl => by obtain ⟨_,_,rfl⟩ := len2 hl; rfl) (fun vs H Q E h => ?_) (fun f cdv A outer s H vs Q E hr h => ?_)
  · obtain ⟨a,b,rfl,_⟩ := h
    rfl
  · obtain ⟨a,b,rfl,⟨hb,bb⟩,q⟩ := h
    refine ⟨_,(pss_cons (ps_set (i := 2) S_law_ratio.nd rfl (Or.inl rfl) (pe_fn F_law_divisor (hr.mono (by decide)) (by rfl) (pa_cons (pv 0) (pa_cons (pv 1) pa_nil)))) (pss_one (ps_ret (pe_tupA (pa_cons (pe_op op_fdivP (pv 0) (pv 2)) (pa_cons (pe_op op_fdivP (pv 1) (pv 2)) pa_nil)))))),?_⟩
    refine ⟨_,rfl,_,rfl,a,b,rfl,by omega,?_⟩
    have hg := gcd_pos (a := a) (b := b) (by omega)
    have bg : bits (Int.gcd a b : Int) ≤ 8000 := bits_le (gcd_bits2 (by omega) bb) (by decide)
    refine ⟨_,rfl,_,rfl,_,_,rfl,rfl,⟨hg,bg⟩,_,rfl,_,rfl,_,_,rfl,rfl,⟨hg,bg⟩,sz (by simp),fun p H1 s1 f1 n1 => ?_⟩
    exact q p _ _ H1 (frac_pos hb) rfl rfl s1 f1 n1
theorem S_law_below : FnScope ["one","other"] ["one","other"] (defScope (top 84)) := ⟨rfl,rfl,rfl,by decide +kernel,rfl,by decide +kernel,by decide +kernel⟩
theorem fn_law_below (D_law_below : Df K mg "_law_below" (top 84)) : Fn P w K mg base "_law_below" ["one","other"] 1 spLess := by
  refine D_law_below.fn S_law_below (fun _ _ _ _ _ _ us hl => by obtain ⟨_,_,rfl⟩ := len2 hl; rfl) (fun vs H Q E h => ?_) (fun f cdv A outer s H vs Q E hr h => ?_)
  · obtain ⟨p,q,a,b,c,d,rfl,_⟩ := h
    rfl
  · obtain ⟨p,q,a,b,c,d,rfl,hp,hq,⟨ba,bb,bc,bd⟩,k⟩ := h
    refine ⟨_,(pss_one (ps_ret (pe_cmpR op_lt (pe_op op_mulX (pe_ix ix_tup (pv 0) pe_int (fun _ _ => rfl)) (pe_ix ix_tup (pv 1) pe_int (fun _ _ => rfl))) (pe_op op_mulX (pe_ix ix_tup (pv 1) pe_int (fun _ _ => rfl)) (pe_ix ix_tup (pv 0) pe_int (fun _ _ => rfl))) (nomark _)))),?_⟩
    walk_at "rd"
    exact k
theorem S_law_spot_on : FnScope ["pot","at","parts"] ["pot","at"] (defScope (top 87)) := ⟨rfl,rfl,rfl,by decide +kernel,rfl,by decide +kernel,by decide +kernel⟩
theorem fn_law_spot_on (D_law_spot_on : Df K mg "_law_spot_on" (top 87)) (F_law_take : Fn P w K mg base "_law_take" ["pot","size"] 1 Dr.spTk) (F_law_wide : Fn P w K mg base "_law_wide" ["pot","size"] 2 Dr.spWd) (F_law_ratio : Fn P w K mg base "_law_ratio" ["top","bottom"] 2 spLRat) : Fn P w K mg base "_law_spot_on" ["pot","at"] 3 spSpot := by
  refine D_law_spot_on.fn S_law_spot_on (fun _ _ _ _ _ _ us hl => by obtain ⟨_,_,rfl⟩ := len2 hl; rfl) (fun vs H Q E h => ?_) (fun f cdv A outer s H vs Q E hr h => ?_)
  · obtain ⟨p,n,k,rfl,_⟩ := h
    rfl
  · obtain ⟨p,n,k,rfl,pt,hk,⟨hn0,hn1⟩,q⟩ := h
    refine ⟨_,(pss_cons (ps_set (i := 2) S_law_spot_on.nd rfl (Or.inl rfl) (pe_op op_add pe_int (pe_fn F_law_wide (hr.mono (by decide)) (by rfl) (pa_cons (pv 0) (pa_cons (pe_ix ix_list (pe_lstA (pa_cons pe_int (pa_cons pe_int (pa_cons pe_int (pa_cons (pe_op op_pow pe_int pe_int) pa_nil))))) (pe_fn F_law_take (hr.mono (by decide)) (by rfl) (pa_cons (pv 0) (pa_cons pe_int pa_nil))) (fun _ _ => rfl)) pa_nil))))) (pss_one (ps_ret (pe_fn F_law_ratio (hr.mono (by decide)) (by rfl) (pa_cons (pe_op op_add (pe_op op_mulX (pv 1) (pv 2)) (pe_fn F_law_wide (hr.mono (by decide)) (by rfl) (pa_cons (pv 0) (pa_cons (pe_op op_add (pv 2) pe_int) pa_nil)))) (pa_cons (pv 2) pa_nil)))))),?_⟩
    have e18 : (10 : Int) ^ (18 : Int).toNat = 1000000000000000000 := by decide +kernel
    refine ⟨_,rfl,_,_,rfl,rfl,⟨by decide,by decide,by decide⟩,sz (by simp),fun pl H1 s1 f1 n1 => ?_⟩
    have np1 := Pot.ne pt n1
    have p1 := pt.same s1
    refine ⟨_,rfl,p,_,_,rfl,p1,by omega,⟨by decide,by decide⟩,fun r2 H2 a2 b2' b2 p2 => ?_⟩
    refine menuI (fun m => 1 ≤ m ∧ m ≤ 1000000000000000000) (b2 _ _ np1 f1) a2 (by simpa using b2') (fun v hv => ?_) fun m hm => ?_
    · simp only [List.mem_cons,List.not_mem_nil,or_false] at hv
      rcases hv with rfl | rfl | rfl | rfl
      · exact ⟨_,rfl,by decide,by decide⟩
      · exact ⟨_,rfl,by decide,by decide⟩
      · exact ⟨_,rfl,by decide,by decide⟩
      · exact ⟨_,rfl,by rw [e18]; decide,by rw [e18]; decide⟩
    have bits61 : ∀ {z : Int},0 ≤ z → z ≤ 1000000000000000001 → bits z ≤ 61 := fun {z} h0 h1 => bits_of (n := 61) (by show _ < 2305843009213693952; omega)
    refine ⟨p,_,_,rfl,p2,by omega,⟨by omega,bits_le (bits61 (by omega) (by omega)) (by decide)⟩,fun r3 H3 a3 b3' b3 p3 => ⟨_,_,rfl,rfl,?_⟩⟩
    have bn : bits n ≤ 10 := bits_small (by omega) (by omega)
    have bp : bits (1 + r3) ≤ 61 := bits61 (by omega) (by omega)
    have bp60 : bits (1 + r3) ≤ 60 := bits_of (n := 60) (by show _ < 1152921504606846976; omega)
    refine ⟨_,rfl,_,rfl,_,_,rfl,rfl,CM.l (lt64s (by omega) (by omega)),_,rfl,_,rfl,_,_,rfl,rfl,p,_,_,rfl,p3,by omega,⟨by omega,bits_le (bits61 (by omega) (by omega)) (by decide)⟩,fun r4 H4 a4 b4' b4 p4 => ⟨_,_,rfl,rfl,?_⟩⟩
    have B4 : But p H H4 := ((But.of s1).trans b2).trans (b3.trans b4)
    refine ⟨_,rfl,_,_,rfl,⟨by omega,bits_le bp (by decide)⟩,fun z t b H5 fr et eb s5 f5 n5 => ?_⟩
    have hb : 0 < b := fr.low.pos
    have hpp : 0 < 1 + r3 := by omega
    have heq := fr.eq
    have br4 : bits r4 ≤ 61 := bits61 (by omega) (by omega)
    have btop : bits (n * (1 + r3) + r4) ≤ 100 := by walk_at "bl"
    refine q z t b H5 fr.low ?_ ?_ ?_ ?_ (B4.trans (But.of s5)) f5 ((p4.same s5).mono (by omega))
    · have h1 : n * b * (1 + r3) ≤ t * (1 + r3) := by
        rw [← heq]
        have : 0 ≤ r4 * b := Int.mul_nonneg a4 (by omega)
        have e : (n * (1 + r3) + r4) * b = n * b * (1 + r3) + r4 * b := by grind
        omega
      exact Int.le_of_mul_le_mul_right h1 hpp
    · have h1 : t * (1 + r3) ≤ (n + 1) * b * (1 + r3) := by
        rw [← heq]
        have : r4 * b ≤ (1 + r3) * b := Int.mul_le_mul_of_nonneg_right (by omega) (by omega)
        have e : (n * (1 + r3) + r4) * b = n * b * (1 + r3) + r4 * b := by grind
        have e2 : (n + 1) * b * (1 + r3) = n * b * (1 + r3) + (1 + r3) * b := by grind
        omega
      exact Int.le_of_mul_le_mul_right h1 hpp
    · rw [et]
      exact bits_le (bits_ediv (gcd_pos (by omega)) btop) (by decide)
    · rw [eb]
      exact bits_ediv (gcd_pos (by omega)) bp60
theorem S_law_any : FnScope ["pot","last","way"] ["pot","last","way"] (defScope (top 88)) := ⟨rfl,rfl,rfl,by decide +kernel,rfl,by decide +kernel,by decide +kernel⟩
theorem fn_law_any (D_law_any : Df K mg "_law_any" (top 88)) (F_law_take : Fn P w K mg base "_law_take" ["pot","size"] 1 Dr.spTk) (F_law_spot_on : Fn P w K mg base "_law_spot_on" ["pot","at"] 3 spSpot) : Fn P w K mg base "_law_any" ["pot","last","way"] 4 spAny := by
  refine D_law_any.fn S_law_any (fun _ _ _ _ _ _ us hl => by obtain ⟨_,_,_,rfl⟩ := len3 hl; rfl) (fun vs H Q E h => ?_) (fun f cdv A outer s H vs Q E hr h => ?_)
  · obtain ⟨p,n,k,w,rfl,_⟩ := h
    rfl
  · obtain ⟨p,n,k,w,rfl,pt,hk,⟨hn0,hn1⟩,q⟩ := h
    refine ⟨_,(pss_cons (ps_if (pw_or (pt_cmpR op_eq (pv 1) pe_int (nomark _)) (pw_or (pt_cmpR op_eq (pv 2) pe_str (nomark _)) (pw_or1 (pt_cmpR op_eq (pe_fn F_law_take (hr.mono (by decide)) (by rfl) (pa_cons (pv 0) (pa_cons pe_int pa_nil))) pe_int (nomark _))))).pt (pss_one (ps_ret (pe_tupA (pa_cons (pe_fn F_law_take (hr.mono (by decide)) (by rfl) (pa_cons (pv 0) (pa_cons (pe_op op_add (pv 1) pe_int) pa_nil))) (pa_cons pe_int pa_nil))))) pss_nil) (pss_one (ps_ret (pe_fn F_law_spot_on (hr.mono (by decide)) (by rfl) (pa_cons (pv 0) (pa_cons (pe_fn F_law_take (hr.mono (by decide)) (by rfl) (pa_cons (pv 0) (pa_cons (pv 1) pa_nil))) pa_nil)))))),?_⟩
    have whole : ∀ (H1 : Hp) (k' : Int),But p H H1 → Pot H1 p k' → k' ≤ k + 5 → (tRet (tTupA (tCons (tCall spTk [] E0 (tCons (tVar 0) (tCons (tOp (rI0 fun i j => .int (i + j)) (tVar 1) (tC (.int 1))) tNil))) (tCons (tC (.int 1)) tNil)))) { nx := fun _ H' => Q .non H',rt := Q } [some (.ref p),some (.int n),some (.str w)] H1 := fun H1 k' b1 p1 hk' => by
      refine ⟨_,rfl,_,rfl,_,_,rfl,rfl,p,_,_,rfl,p1,by omega,⟨by omega,bits_le (bits_small (by omega) (by omega)) (by decide)⟩,fun r2 H2 a2 b2' b2 p2 => ?_⟩
      refine ⟨sz (by simp),fun z H3 s3 f3 n3 => q z r2 1 H3 ⟨f3,⟨by decide,Int.gcd_one⟩,a2,by omega,bits_le (bits_small (by omega) (by omega)) (by decide),by decide,fun _ => rfl⟩ (b1.trans (b2.trans (But.of s3))) ((p2.same s3).mono (by omega))⟩
    refine ⟨_,rfl,rfl,_,rfl,ite3 (fun h1 => ?_) (fun h1 => ?_)⟩
    · exact whole H k But.refl pt (by omega)
    have hn : n ≠ 0 := by
      intro z
      subst z
      exact absurd h1 (by decide)
    refine ⟨_,rfl,rfl,_,rfl,ite3 (fun h2 => ?_) (fun h2 => ?_)⟩
    · exact whole H k But.refl pt (by omega)
    have hw : w ≠ wHops := fun z => by
      subst z
      exact absurd h2 (by decide)
    refine ⟨_,rfl,p,_,_,rfl,pt,by omega,⟨by decide,by decide⟩,fun r1 H1 _ _ b1 p1 => ?_⟩
    refine ⟨rfl,_,rfl,ite3 (fun h3 => ?_) (fun h3 => ?_)⟩
    · exact whole H1 (k + 1) b1 p1 (by omega)
    refine ⟨_,rfl,_,rfl,_,rfl,p,_,_,rfl,p1,by omega,⟨by omega,bits_le (bits_small (by omega) (by omega)) (by decide)⟩,fun r2 H2 a2 b2' b2 p2 => ?_⟩
    refine ⟨p,_,_,rfl,p2,by omega,⟨a2,by omega⟩,fun z t b H3 lw g1 g2 bt bb b3 f3 p3 => ?_⟩
    have hb := lw.pos
    have h0 : 0 ≤ r2 * b := Int.mul_nonneg a2 (by omega)
    have h9 : (r2 + 1) * b ≤ n * b := Int.mul_le_mul_of_nonneg_right (by omega) (by omega)
    exact q z t b H3 ⟨f3,lw,by omega,by omega,bt,bb,fun z => absurd z hw⟩ (b1.trans (b2.trans b3)) (p3.mono (by omega))
theorem S_law_ahead : FnScope ["pot","place","last","way","at","turn","spot"] ["pot","place","last","way"] (defScope (top 89)) := ⟨rfl,rfl,rfl,by decide +kernel,rfl,by decide +kernel,by decide +kernel⟩
theorem fn_law_ahead (D_law_ahead : Df K mg "_law_ahead" (top 89)) (F_law_take : Fn P w K mg base "_law_take" ["pot","size"] 1 Dr.spTk) (F_law_spot_on : Fn P w K mg base "_law_spot_on" ["pot","at"] 3 spSpot) (F_law_below : Fn P w K mg base "_law_below" ["one","other"] 1 spLess) : Fn P w K mg base "_law_ahead" ["pot","place","last","way"] 4 spAhead := by
  refine D_law_ahead.fn S_law_ahead (fun _ _ _ _ _ _ us hl => by obtain ⟨_,_,_,_,rfl⟩ := len4 hl; rfl) (fun vs H Q E h => ?_) (fun f cdv A outer s H vs Q E hr h => ?_)
  · obtain ⟨p,z0,t0,b0,n,k,wy,rfl,_⟩ := h
    rfl
  · obtain ⟨p,z0,t0,b0,n,k,wy,rfl,pt,hk,⟨hn0,hn1⟩,d0,q⟩ := h
    have hb := d0.low.pos
    have bb0 : bits b0 ≤ 8000 := bits_le d0.bb (by decide)
    have f0 := fl_nn hb d0.n0
    have f1 := fl_le_n hb d0.n1
    have g1 := fl_le (a := t0) hb
    have g2 := fl_lt (a := t0) hb
    have stay : ∀ {H1 : Hp} {k' : Int},But p H H1 → Pot H1 p k' → k' ≤ k + 20 → Q (.ref z0) H1 := fun b1 p1 hk' => q z0 t0 b0 _ (d0.t' (b1.t pt)) (go_self hb d0.hop) b1 (p1.mono hk')
    have R : ∃ u,PSs (cxOf CX0 P w K mg base ["pot","place","last","way","at","turn","spot"] "_law_ahead" (defScope (top 89)) f cdv A outer s H E).nox ((defBody (top 89)).drop 4) u ∧ ∀ (r1 : Int) (H2 : Hp) (k' : Int),But p H H2 → Pot H2 p k' → k' ≤ k + 3 → u { nx := fun _ H' => Q .non H',rt := Q } [some (.ref p),some (.ref z0),some (.int n),some (.str wy),some (.int (t0 / b0)),some (.int r1),none] H2 := by
      refine ⟨_,(pss_cons (ps_if (pt_cmpR op_eq (pv 4) (pv 2) (nomark _)) (pss_one (ps_ret (pv 1))) pss_nil) (pss_cons (ps_set (i := 6) S_law_ahead.nd rfl (Or.inl rfl) (pe_tupA (pa_cons (pe_op op_add (pv 4) pe_int) (pa_cons pe_int pa_nil)))) (pss_cons (ps_if (pw_and (pt_cmpR op_eq (pv 5) pe_int (nomark _)) (pw_and1 (pt_cmpR op_ne (pv 3) pe_str (nomark _)))).pt (pss_one (ps_set (i := 6) S_law_ahead.nd rfl (Or.inl rfl) (pe_fn F_law_spot_on (hr.mono (by decide)) (by rfl) (pa_cons (pv 0) (pa_cons (pv 4) pa_nil))))) pss_nil) (pss_cons (ps_if (pw_and (pt_cmpR op_ne (pv 3) pe_str (nomark _)) (pw_and1 (pt_val (pe_fn F_law_below (hr.mono (by decide)) (by rfl) (pa_cons (pv 6) (pa_cons (pv 1) pa_nil)))))).pt (pss_one (ps_ret (pv 1))) pss_nil) (pss_one (ps_ret (pv 6))))))),fun r1 H2 k' b2 p2 hk2 => ?_⟩
      have d2 := d0.t' (b2.t pt)
      refine ⟨_,rfl,_,rfl,rfl,_,rfl,ite3 (fun h2 => ?_) (fun h2 => ?_)⟩
      · exact ⟨_,rfl,stay b2 p2 (by omega)⟩
      have hne : t0 / b0 ≠ n := fun z => by
        rw [z] at h2
        exact absurd h2 (by simp)
      refine ⟨_,rfl,_,_,rfl,rfl,sz (by simp),fun zs H3 s3 f3 n3 => ?_⟩
      have fin : ∀ (zs : Addr) (t b : Int) (H4 : Hp) (k4 : Int),Dp H4 zs t b n wy → (t0 / b0) * b ≤ t → t ≤ (t0 / b0 + 1) * b → (wy = wHops → t = t0 / b0 + 1 ∧ b = 1) → But p H H4 → Pot H4 p k4 → k4 ≤ k + 20 →
          (tSeq (tIfS (tAnd (tTest (tOp rNe (tVar 3) (tC (.str wFree)))) (tB (tCall spLess [] E0 (tCons (tVar 6) (tCons (tVar 1) tNil))))) (tRet (tVar 1)) tNext) (tRet (tVar 6))) { nx := fun _ H' => Q .non H',rt := Q } [some (.ref p),some (.ref z0),some (.int n),some (.str wy),some (.int (t0 / b0)),some (.int r1),some (.ref zs)] H4 := by
        intro zs t b H4 k4 d4 j1 j2 jh b4 p4 hk4
        have d04 := d0.t' (b4.t pt)
        have hb4 := d4.low.pos
        have go : (wy ≠ wFree → ¬ t * b0 < t0 * b) → goB wy t0 b0 t b = true := fun hf => go_of (k := t0 / b0) hb hb4 g1 (by omega) j1 j2 (fun z => by
          obtain ⟨e1,e2⟩ := jh z
          have e3 := d0.hop z
          subst e2 e3
          rw [Int.ediv_one] at e1
          exact ⟨rfl,rfl,.inr (by omega)⟩) hf
        refine ⟨_,rfl,rfl,_,rfl,ite3 (fun h3 => ?_) (fun h3 => ?_)⟩
        · refine ⟨_,rfl,_,rfl,zs,z0,_,_,_,_,rfl,d4.at_,d04.at_,⟨bits_le d4.bt (by decide),bits_le d4.bb (by decide),bits_le d04.bt (by decide),bits_le d04.bb (by decide)⟩,_,rfl,ite3 (fun h4 => ?_) (fun h4 => ?_)⟩
          · exact ⟨_,rfl,stay b4 p4 hk4⟩
          · exact ⟨_,rfl,q zs t b H4 d4 (go fun _ => dec_f h4) b4 (p4.mono hk4)⟩
        · have ew : wy = wFree := by
            have h3' : decide (V.str wy = V.str wFree) = true := by simpa using h3
            have := dec_t h3'
            cases this
            rfl
          exact ⟨_,rfl,q zs t b H4 d4 (go fun z => absurd ew z) b4 (p4.mono hk4)⟩
      have b3 : But p H H3 := b2.trans (But.of s3)
      have p3 := p2.same s3
      have hm : (t0 / b0 + 1) ≤ n := by omega
      have dS : Dp H3 zs (t0 / b0 + 1) 1 n wy := ⟨f3,⟨by decide,Int.gcd_one⟩,by omega,by omega,bits_le (bits_small (by omega) (by omega)) (by decide),by decide,fun _ => rfl⟩
      refine ⟨_,rfl,rfl,_,rfl,ite3 (fun h5 => ?_) (fun h5 => ?_)⟩
      · refine ⟨_,rfl,rfl,_,rfl,ite3 (fun h6 => ?_) (fun h6 => ?_)⟩
        · have nw : wy ≠ wHops := fun z => by
            subst z
            exact absurd h6 (by decide)
          refine ⟨_,rfl,_,rfl,p,_,_,rfl,p3,by omega,⟨f0,by omega⟩,fun zt t b H4 lw c1 c2 bt bb b4 f4 p4 => ?_⟩
          have hbz := lw.pos
          have m0 : 0 ≤ t0 / b0 * b := Int.mul_nonneg f0 (by omega)
          have m1 : (t0 / b0 + 1) * b ≤ n * b := Int.mul_le_mul_of_nonneg_right hm (by omega)
          exact fin zt t b H4 _ ⟨f4,lw,by omega,by omega,bt,bb,fun z => absurd z nw⟩ c1 c2 (fun z => absurd z nw) (b3.trans b4) p4 (by omega)
        · exact fin zs _ 1 H3 _ dS (by omega) (by omega) (fun _ => ⟨rfl,rfl⟩) b3 p3 (by omega)
      · exact fin zs _ 1 H3 _ dS (by omega) (by omega) (fun _ => ⟨rfl,rfl⟩) b3 p3 (by omega)
    obtain ⟨u,hu,ru⟩ := R
    refine ⟨_,(pss_cons (ps_set (i := 4) S_law_ahead.nd rfl (Or.inl rfl) (pe_op op_fdivP (pe_ix ix_tup (pv 1) pe_int (fun _ _ => rfl)) (pe_ix ix_tup (pv 1) pe_int (fun _ _ => rfl)))) (pss_cons (ps_set (i := 5) S_law_ahead.nd rfl (Or.inl rfl) (pe_fn F_law_take (hr.mono (by decide)) (by rfl) (pa_cons (pv 0) (pa_cons pe_int pa_nil)))) (pss_cons (ps_if (pt_cmpR op_eq (pv 5) pe_int (nomark _)) (pss_one (ps_ret (pv 1))) pss_nil) (pss_cons (ps_if (pw_and (pt_cmpR op_eq (pv 3) pe_str (nomark _)) (pw_and (pt_cmpR op_gt (pv 4) pe_int (nomark _)) (pw_and (pt_cmpR op_eq (pe_ix ix_tup (pv 1) pe_int (fun _ _ => rfl)) pe_int (nomark _)) (pw_and1 (pt_cmpR op_eq (pe_fn F_law_take (hr.mono (by decide)) (by rfl) (pa_cons (pv 0) (pa_cons pe_int pa_nil))) pe_int (nomark _)))))).pt (pss_one (ps_ret (pe_fn F_law_spot_on (hr.mono (by decide)) (by rfl) (pa_cons (pv 0) (pa_cons (pe_op op_sub (pv 4) pe_int) pa_nil))))) pss_nil) hu)))),?_⟩
    refine ⟨_,rfl,z0,_,_,_,rfl,rfl,SqT.of d0.at_,rfl,_,rfl,z0,_,_,_,rfl,rfl,SqT.of d0.at_,rfl,_,_,rfl,rfl,⟨hb,bb0⟩,?_⟩
    refine ⟨_,rfl,p,_,_,rfl,pt,by omega,⟨by decide,by decide⟩,fun r1 H1 a1 b1' b1 p1 => ?_⟩
    have d1 := d0.t' (b1.t pt)
    refine ⟨_,rfl,rfl,_,rfl,ite3 (fun h1 => ?_) (fun h1 => ?_)⟩
    · exact ⟨_,rfl,stay b1 p1 (by omega)⟩
    refine ⟨_,rfl,rfl,_,rfl,ite3 (fun h2 => ?_) (fun h2 => ?_)⟩
    · have ew : wy = wFree := by
        have := dec_t h2
        cases this
        rfl
      refine ⟨_,rfl,_,_,rfl,rfl,_,rfl,ite3 (fun h3 => ?_) (fun h3 => ?_)⟩
      · have h3 : 0 < t0 / b0 := dec_t h3
        refine ⟨_,rfl,z0,_,_,_,rfl,rfl,SqT.of d1.at_,rfl,rfl,_,rfl,ite3 (fun h4 => ?_) (fun h4 => ?_)⟩
        · have h4 : b0 = 1 := by
            have := dec_t h4
            cases this
            rfl
          refine ⟨_,rfl,p,_,_,rfl,p1,by omega,⟨by decide,by decide⟩,fun r2 H2 _ _ b2 p2 => ?_⟩
          refine ⟨rfl,_,rfl,ite3 (fun h5 => ?_) (fun h5 => ?_)⟩
          · refine ⟨_,rfl,_,rfl,_,_,rfl,rfl,p,_,_,rfl,p2,by omega,⟨by omega,by omega⟩,fun zt t b H4 lw c1 c2 bt bb b4 f4 p4 => ?_⟩
            have hbz := lw.pos
            subst h4
            rw [Int.ediv_one] at c1 c2 h3 f1
            have m0 : 0 ≤ (t0 - 1) * b := Int.mul_nonneg (by omega) (by omega)
            have m1 : t0 * b ≤ n * b := Int.mul_le_mul_of_nonneg_right f1 (by omega)
            have e1 : t0 - 1 + 1 = t0 := by omega
            have c2' : t ≤ t0 * b := by rw [e1] at c2; exact c2
            have hgo : (wy ≠ wFree → ¬ t * 1 < t0 * b) → (wy = wHops → (1 : Int) = 1 ∧ b = 1 ∧ (t - t0 = 0 ∨ t - t0 = 1)) → goB wy t0 1 t b = true := fun hf hh => go_of (k := t0 - 1) (by decide) hbz (by omega) (by omega) c1 c2 hh hf
            have nh : wy ≠ wHops := fun z => by
              rw [ew] at z
              exact absurd z (by decide)
            exact q zt t b H4 ⟨f4,lw,by omega,by omega,bt,bb,fun z => absurd z nh⟩ (hgo (fun z => absurd ew z) fun z => absurd z nh) (b1.trans (b2.trans b4)) (p4.mono (by omega))
          · exact ru r1 H2 _ (b1.trans b2) p2 (by omega)
        · exact ru r1 H1 _ b1 p1 (by omega)
      · exact ru r1 H1 _ b1 p1 (by omega)
    · exact ru r1 H1 _ b1 p1 (by omega)
theorem S_law_home : FnScope ["place","last"] ["place","last"] (defScope (top 90)) := ⟨rfl,rfl,rfl,by decide +kernel,rfl,by decide +kernel,by decide +kernel⟩
theorem fn_law_home (D_law_home : Df K mg "_law_home" (top 90)) (T : Txt mg) : Fn P w K mg base "_law_home" ["place","last"] 1 spHome := by
  refine D_law_home.fn S_law_home (fun _ _ _ _ _ _ us hl => by obtain ⟨_,_,rfl⟩ := len2 hl; rfl) (fun vs H Q E h => ?_) (fun f cdv A outer s H vs Q E hr h => ?_)
  · obtain ⟨z0,t0,b0,n,w,rfl,_⟩ := h
    rfl
  · obtain ⟨z0,t0,b0,n,w,rfl,⟨hn0,hn1⟩,d0,q⟩ := h
    refine ⟨_,(pss_one (ps_ret (pe_tupA (pa_cons (pe_callB (call_min2 rfl) (by rfl) T.z_min bt_min (pa_cons (pv 1) (pa_cons (pe_op op_add (pe_op op_fdivP (pe_ix ix_tup (pv 0) pe_int (fun _ _ => rfl)) (pe_ix ix_tup (pv 0) pe_int (fun _ _ => rfl))) pe_int) pa_nil))) (pa_cons pe_int pa_nil))))),?_⟩
    have hb := d0.low.pos
    obtain ⟨hg,h0⟩ := home_go (w := w) d0.low d0.n0 d0.n1 d0.hop
    have hle := homeT_le t0 b0 n
    refine ⟨_,rfl,_,rfl,z0,_,_,_,rfl,rfl,SqT.of d0.at_,rfl,_,rfl,z0,_,_,_,rfl,rfl,SqT.of d0.at_,rfl,_,_,rfl,rfl,⟨hb,bits_le d0.bb (by decide)⟩,_,_,rfl,rfl,_,_,rfl,sz (by simp),fun z H1 s1 f1 _ => ?_⟩
    have e : (if t0 / b0 + 1 < n then t0 / b0 + 1 else n) = homeT t0 b0 n := rfl
    have f1' : H1 z = some (.tup [.int (homeT t0 b0 n),.int 1]) := f1
    exact q z H1 ⟨f1',⟨by decide,Int.gcd_one⟩,h0,by omega,bits_le (bits_small (by omega) (by omega)) (by decide),by decide,fun _ => rfl⟩ hg s1
def ME (t : TE) : Prop := ∀ σ H Q Q',(∀ v H1,Q v H1 → Q' v H1) → t σ H Q → t σ H Q'
def MT (t : TT) : Prop := ∀ σ H Q Q',(∀ b H1,Q b H1 → Q' b H1) → t σ H Q → t σ H Q'
def MA (t : TA) : Prop := ∀ σ H Q Q',(∀ v H1,Q v H1 → Q' v H1) → t σ H Q → t σ H Q'
def MR (r : R2) : Prop := ∀ x y H Q Q',(∀ v H1,Q v H1 → Q' v H1) → r x y H Q → r x y H Q'
theorem me_var {i : Nat} : ME (tVar i) := fun σ H Q Q' hq ⟨v,e,h⟩ => ⟨v,e,hq _ _ h⟩
theorem me_c {v : V} : ME (tC v) := fun σ H Q Q' hq h => hq _ _ h
theorem me_op {r : R2} {a b : TE} (hr : MR r) (ha : ME a) (hb : ME b) : ME (tOp r a b) := fun σ H Q Q' hq h => ha σ H _ _ (fun x H1 h1 => hb σ H1 _ _ (fun y H2 h2 => hr x y H2 Q Q' hq h2) h1) h
theorem mr_eqI {K : PySem.W.Frag} {neg : Bool} : MR (rEqI K neg) := fun x y H Q Q' hq ⟨p,q,ns,ms,e1,e2,h1,h2,k⟩ => ⟨p,q,ns,ms,e1,e2,h1,h2,hq _ _ k⟩
theorem mr_ne : MR rNe := fun x y H Q Q' hq ⟨h,k⟩ => ⟨h,hq _ _ k⟩
theorem ma_nil : MA tNil := fun σ H Q Q' hq h => hq _ _ h
theorem ma_cons {a : TE} {r : TA} (ha : ME a) (hr : MA r) : MA (tCons a r) := fun σ H Q Q' hq h => ha σ H _ _ (fun x H1 h1 => hr σ H1 _ _ (fun xs H2 h2 => hq _ _ h2) h1) h
theorem me_tupA {t : TA} (h : MA t) : ME (tTupA t) := fun σ H Q Q' hq k => h σ H _ _ (fun xs H1 ⟨z,f⟩ => ⟨z,fun p H2 s e n => hq _ _ (f p H2 s e n)⟩) k
theorem mt_test {t : TE} (h : ME t) : MT (tTest t) := fun σ H Q Q' hq k => h σ H _ _ (fun x H1 ⟨b,e,f⟩ => ⟨b,e,hq _ _ f⟩) k
theorem mt_or {a b : TT} (ha : MT a) (hb : MT b) : MT (tOr a b) := fun σ H Q Q' hq k => ha σ H _ _ (fun c H1 f => by
  cases c with
  | true => exact hq _ _ f
  | false => exact hb σ H1 Q Q' hq f) k
theorem mt_and {a b : TT} (ha : MT a) (hb : MT b) : MT (tAnd a b) := fun σ H Q Q' hq k => ha σ H _ _ (fun c H1 f => by
  cases c with
  | true => exact hb σ H1 Q Q' hq f
  | false => exact hq _ _ f) k
structure WInv (H : Hp) (l : Addr) (n m : Int) (w : Str) (ps : List Pr) (q : Pr) : Prop where
  at_ : PairsAt H l (ps ++ [q])
  st : stepsB w (ps ++ [q]) = true
  inn : (ps ++ [q]).all (inB n m) = true
  fst : ∀ f,(ps ++ [q]).head? = some f → f.a = 0 ∧ f.b = 1 ∧ (w ≠ wPart → f.c = 0 ∧ f.d = 1)
  hop : w = wHops → ∀ r ∈ ps ++ [q],r.b = 1 ∧ r.d = 1
theorem steps_snoc {w : Str} {ps : List Pr} {q r : Pr} (h : stepsB w (ps ++ [q]) = true) (h2 : stepB w q r = true) : stepsB w (ps ++ [q] ++ [r]) = true := by
  rw [steps_iff] at h ⊢
  intro j u v eu ev
  have hv := (List.getElem?_eq_some_iff.mp ev).1
  rw [List.length_append,List.length_append] at hv
  simp only [List.length_cons,List.length_nil] at hv
  by_cases hj : j + 1 < ps.length + 1
  · rw [List.getElem?_append_left (by rw [List.length_append]; simp only [List.length_cons,List.length_nil]; omega)] at eu ev
    exact h j u v eu ev
  · have ej : j = ps.length := by omega
    subst ej
    rw [List.getElem?_append_left (by simp),List.getElem?_append_right (Nat.le_refl _),Nat.sub_self] at eu
    rw [List.getElem?_append_right (by simp)] at ev
    simp at ev
    cases eu
    subst ev
    exact h2
theorem head_snoc {ps : List Pr} {q r f : Pr} (h : (ps ++ [q] ++ [r]).head? = some f) : (ps ++ [q]).head? = some f := by
  cases ps with
  | nil => exact h
  | cons a b => exact h
theorem WInv.step {H H2 H3 : Hp} {l : Addr} {n m : Int} {w : Str} {ps : List Pr} {q r : Pr} (W : WInv H l n m w ps q) (s : SameT H H2) (u : Upd H2 H3 l (prs (ps ++ [q])) (prs (ps ++ [q]) ++ [.ref r.p])) (pr : PrAt H2 r) (hs : stepB w q r = true) (hi : inB n m r = true) (hh : w = wHops → r.b = 1 ∧ r.d = 1) : WInv H3 l n m w (ps ++ [q]) r := by
  refine ⟨⟨by rw [u.now]; unfold prs; rw [List.map_append (l₁ := ps ++ [q])]; rfl,fun z hz => ?_⟩,steps_snoc W.st hs,by rw [List.all_append,W.inn,Bool.true_and]; simp [hi],fun f hf => W.fst f (head_snoc hf),fun z x hx => ?_⟩
  · rcases List.mem_append.mp hz with hz | hz
    · exact ((W.at_.pr z hz).t s).t u.t
    · rw [List.mem_singleton.mp hz]
      exact pr.t u.t
  · rcases List.mem_append.mp hx with hx | hx
    · exact W.hop z x hx
    · rw [List.mem_singleton.mp hx]
      exact hh z
structure GoodW (n m : Int) (w : Str) (ps : List Pr) : Prop where
  walk : walkB n m w ps = true
  hop : w = wHops → ∀ r ∈ ps,r.b = 1 ∧ r.d = 1
theorem getLast_snoc {ps : List Pr} {q : Pr} (h : ps ++ [q] ≠ []) : (ps ++ [q]).getLast h = q := by simp
theorem WInv.good {H : Hp} {l : Addr} {n m : Int} {w : Str} {ps : List Pr} {q : Pr} (W : WInv H l n m w ps q) (hx : q.a = n ∧ q.b = 1) (hy : w = wPart ∨ (q.c = m ∧ q.d = 1)) : GoodW n m w (ps ++ [q]) := by
  refine ⟨?_,W.hop⟩
  have hne : ps ++ [q] ≠ [] := by simp
  have key : ∀ (xs : List Pr) (h : xs ≠ []),xs.all (inB n m) = true → stepsB w xs = true → (∀ f,xs.head? = some f → f.a = 0 ∧ f.b = 1 ∧ (w ≠ wPart → f.c = 0 ∧ f.d = 1)) → ((xs.getLast h).a = n ∧ (xs.getLast h).b = 1) → (w = wPart ∨ ((xs.getLast h).c = m ∧ (xs.getLast h).d = 1)) → walkB n m w xs = true := by
    intro xs h h1 h2 h3 h4 h5
    match xs,h,h1,h2,h3,h4,h5 with
    | f :: r,h,h1,h2,h3,h4,h5 =>
      rw [walkB_cons,h1,h2,Bool.true_and,Bool.and_true]
      obtain ⟨f1,f2,f3⟩ := h3 f rfl
      unfold endsB isP
      rw [f1,f2,h4.1,h4.2]
      simp only [decide_true,Bool.and_self,if_true]
      by_cases hw : w = wPart
      · rw [if_pos hw]
      · rw [if_neg hw]
        obtain ⟨g1,g2⟩ := f3 hw
        rcases h5 with h5 | ⟨h5,h6⟩
        · exact absurd h5 hw
        · rw [g1,g2,h5,h6]
          simp
  exact key _ hne W.inn W.st W.fst (by rw [getLast_snoc]; exact hx) (by rw [getLast_snoc]; exact hy)
def muP (n : Int) (H : Hp) (z : V) : Nat := match z with
  | .ref p => match H p with
    | some (.tup [.int t,.int b]) => (n - t / b).toNat
    | _ => 0
  | _ => 0
def spDWalk : Sp := fun vs H Q _ => ∃ (p : Addr) (n m k : Int) (w : Str),vs = [.ref p,.int n,.int m,.str w] ∧ Pot H p k ∧ k ≤ 400000 ∧ (0 ≤ n ∧ n ≤ 20) ∧ (0 ≤ m ∧ m ≤ 20) ∧ ∀ (l : Addr) (ps : List Pr) (H' : Hp),PairsAt H' l ps → GoodW n m w ps → ps.length ≤ 60 → H l = none → But p H H' → Pot H' p (k + 500) → Q (.ref l) H'
theorem Dp.pr {H : Hp} {pp zx zy : Addr} {t b c d n m : Int} {w : Str} (e : H pp = some (.tup [.ref zx,.ref zy])) (dx : Dp H zx t b n w) (dy : Dp H zy c d m w) : PrAt H ⟨pp,zx,zy,t,b,c,d⟩ ∧ inB n m ⟨pp,zx,zy,t,b,c,d⟩ = true ∧ (w = wHops → b = 1 ∧ d = 1) := by
  refine ⟨⟨e,dx.at_,dy.at_,dx.low,dy.low,dx.n0,dy.n0,bits_le dx.bt (by decide),bits_le dx.bb (by decide),bits_le dy.bt (by decide),bits_le dy.bb (by decide)⟩,?_,fun z => ⟨dx.hop z,dy.hop z⟩⟩
  unfold inB
  rw [decide_eq_true dx.n1,decide_eq_true dy.n1]
  rfl
theorem S_law_drawn_walk : FnScope ["pot","n","m","way","x","y","walk","turn"] ["pot","n","m","way"] (defScope (top 91)) := ⟨rfl,rfl,rfl,by decide +kernel,rfl,by decide +kernel,by decide +kernel⟩
theorem fn_law_drawn_walk (D_law_drawn_walk : Df K mg "_law_drawn_walk" (top 91)) (F_law_take : Fn P w K mg base "_law_take" ["pot","size"] 1 Dr.spTk) (F_law_any : Fn P w K mg base "_law_any" ["pot","last","way"] 4 spAny) (F_law_ahead : Fn P w K mg base "_law_ahead" ["pot","place","last","way"] 4 spAhead) (F_law_home : Fn P w K mg base "_law_home" ["place","last"] 1 spHome) (T : Txt mg) : Fn P w K mg base "_law_drawn_walk" ["pot","n","m","way"] 5 spDWalk := by
  refine D_law_drawn_walk.fn S_law_drawn_walk (fun _ _ _ _ _ _ us hl => by obtain ⟨_,_,_,_,rfl⟩ := len4 hl; rfl) (fun vs H Q E h => ?_) (fun f cdv A outer s H vs Q E hr h => ?_)
  · obtain ⟨p,n,m,k,wy,rfl,_⟩ := h
    rfl
  · obtain ⟨p,n,m,k,wy,rfl,pt,hk,⟨hn0,hn1⟩,⟨hm0,hm1⟩,q⟩ := h
    have R : ∃ u,PSs (cxOf CX0 P w K mg base ["pot","n","m","way","x","y","walk","turn"] "_law_drawn_walk" (defScope (top 91)) f cdv A outer s H E).nox ((defBody (top 91)).drop 3) u ∧ ∀ (zx zy : Addr) (c d : Int) (H1 : Hp),Dp H1 zx 0 1 n wy → Dp H1 zy c d m wy → (wy ≠ wPart → c = 0 ∧ d = 1) → But p H H1 → Pot H1 p (k + 20) → u { nx := fun _ H' => Q .non H',rt := Q } [some (.ref p),some (.int n),some (.int m),some (.str wy),some (.ref zx),some (.ref zy),none,none] H1 := by
      refine ⟨_,(pss_cons (ps_set (i := 6) S_law_drawn_walk.nd rfl (Or.inl rfl) (@pe_lstA _ _ _ _ (@pa_cons _ _ _ _ _ (@pe_tupA _ _ _ _ _ (@pa_cons _ _ _ _ _ (pv 4) (@pa_cons _ _ _ _ _ (pv 5) pa_nil (by rfl)) (by rfl))) pa_nil (by rfl)))) (pss_cons (ps_for PassesOwn.never rfl (pi_range1 rfl T.z_range (pa_cons (pe_fn F_law_take (hr.mono (by decide)) (by rfl) (pa_cons (pv 0) (pa_cons pe_int pa_nil))) pa_nil)) (pg_name (i := 7) S_law_drawn_walk.nd rfl (Or.inl rfl)) (pss_cons (ps_set (i := 4) S_law_drawn_walk.nd rfl (Or.inl rfl) (pe_fn F_law_ahead (hr.mono (by decide)) (by rfl) (pa_cons (pv 0) (pa_cons (pv 4) (pa_cons (pv 1) (pa_cons (pv 3) pa_nil)))))) (pss_cons (ps_set (i := 5) S_law_drawn_walk.nd rfl (Or.inl rfl) (pe_fn F_law_ahead (hr.mono (by decide)) (by rfl) (pa_cons (pv 0) (pa_cons (pv 5) (pa_cons (pv 2) (pa_cons (pv 3) pa_nil)))))) (pss_one (ps_expr (pe_bm PySem.F.plainAttrs_list PySem.F.slot_list_append PySem.F.type_list_append mt_appendA (pv 6) (pa_cons (pe_tupA (pa_cons (pv 4) (pa_cons (pv 5) pa_nil))) pa_nil))))))) (pss_cons (ps_while PassesOwn.never (pw_or (pt_cmpR (op_neI hr.units0) (pv 4) (pe_tupA (pa_cons (pv 1) (pa_cons pe_int pa_nil))) (nomark _)) (pw_or1 (pw_and (pt_cmpR (op_neI hr.units0) (pv 5) (pe_tupA (pa_cons (pv 2) (pa_cons pe_int pa_nil))) (nomark _)) (pw_and1 (pt_cmpR op_ne (pv 3) pe_str (nomark _)))).pt)).pt (pss_cons (ps_set (i := 4) S_law_drawn_walk.nd rfl (Or.inl rfl) (pe_fn F_law_home (hr.mono (by decide)) (by rfl) (pa_cons (pv 4) (pa_cons (pv 1) pa_nil)))) (pss_cons (ps_set (i := 5) S_law_drawn_walk.nd rfl (Or.inl rfl) (pe_fn F_law_home (hr.mono (by decide)) (by rfl) (pa_cons (pv 5) (pa_cons (pv 2) pa_nil)))) (pss_one (ps_expr (pe_bm PySem.F.plainAttrs_list PySem.F.slot_list_append PySem.F.type_list_append mt_appendA (pv 6) (pa_cons (pe_tupA (pa_cons (pv 4) (pa_cons (pv 5) pa_nil))) pa_nil))))))) (pss_one (ps_ret (pv 6)))))),fun zx zy c d H1 dx dy hcd b1 p1 => ?_⟩
      refine ⟨_,rfl,_,rfl,sz (by simp),fun pp H2 s2 f2 n2 => ?_⟩
      refine ⟨sz (by simp),fun l H3 s3 f3 n3 => ?_⟩
      have p3 := (p1.same s2).same s3
      have npl := Pot.ne (p1.same s2) n3
      have nl : H l = none := b1.none npl (s2.free n3)
      obtain ⟨pr0,in0,hp0⟩ := Dp.pr (s3 _ _ f2) ((dx.t' s2.t).t' s3.t) ((dy.t' s2.t).t' s3.t)
      have b3 : But p H H3 := b1.trans ((But.of s2).trans (But.of s3))
      have W3 : WInv H3 l n m wy [] ⟨pp,zx,zy,0,1,c,d⟩ := ⟨⟨f3,fun z hz => by rw [List.mem_singleton.mp hz]; exact pr0⟩,rfl,by simp [in0],fun f hf => by cases hf; exact ⟨rfl,rfl,hcd⟩,fun z r hr => by rw [List.mem_singleton.mp hr]; exact hp0 z⟩
      refine ⟨_,rfl,p,_,_,rfl,p3,by omega,⟨by decide,by decide⟩,fun r4 H4 a4 b4' b4 p4 => ?_⟩
      have upW : ∀ {Ha Hb : Hp} {ps : List Pr} {qq : Pr} {ka : Int},WInv Ha l n m wy ps qq → But p Ha Hb → Pot Ha p ka → WInv Hb l n m wy ps qq := fun W b pa => ⟨⟨b _ _ npl W.at_.lst,fun z hz => (W.at_.pr z hz).t (b.t pa)⟩,W.st,W.inn,W.fst,W.hop⟩
      refine ⟨_,rfl,by omega,by omega,?_⟩
      refine for_range (n := r4.toNat) (lo := 0) (fun i σ H5 => ∃ (zx zy : Addr) (a b c d : Int) (ps : List Pr) (pp : Addr) (z7 : Option V),σ = [some (.ref p),some (.int n),some (.int m),some (.str wy),some (.ref zx),some (.ref zy),some (.ref l),z7] ∧ WInv H5 l n m wy ps ⟨pp,zx,zy,a,b,c,d⟩ ∧ Dp H5 zx a b n wy ∧ Dp H5 zy c d m wy ∧ ps.length = i ∧ But p H H5 ∧ Pot H5 p (k + 30 + 40 * (i : Int)))
        ⟨zx,zy,0,1,c,d,[],pp,_,rfl,upW W3 b4 p3,((dx.t' s2.t).t' s3.t).t' (b4.t p3),((dy.t' s2.t).t' s3.t).t' (b4.t p3),rfl,b3.trans b4,p4.mono (by omega)⟩ ?_ ?_
      · rintro i σ H5 hi ⟨zx,zy,a,b,c,d,ps,pp,z7,rfl,W5,dx5,dy5,hl,b5,p5⟩
        refine ⟨_,rfl,_,rfl,_,rfl,_,rfl,p,zx,a,b,n,_,wy,rfl,p5,by omega,⟨hn0,by omega⟩,dx5,fun zx' a' b' H6 dx6 g6 b6 p6 => ?_⟩
        have dy6 := dy5.t' (b6.t p5)
        refine ⟨_,rfl,_,rfl,_,rfl,_,rfl,p,zy,c,d,m,_,wy,rfl,p6,by omega,⟨hm0,by omega⟩,dy6,fun zy' c' d' H7 dy7 g7 b7 p7 => ?_⟩
        have dx7 := dx6.t' (b7.t p6)
        have W7 := upW (upW W5 b6 p5) b7 p6
        refine ⟨_,rfl,.inl ⟨rfl,_,SqL.of W7.at_.lst⟩,_,rfl,_,rfl,sz (by simp),fun pp' H8 s8 f8 n8 => ?_⟩
        obtain ⟨pr',in',hp'⟩ := Dp.pr f8 (dx7.t' s8.t) (dy7.t' s8.t)
        refine ⟨l,_,_,rfl,rfl,s8 _ _ W7.at_.lst,small1000 (by rw [prs_len,List.length_append]; simp only [List.length_cons,List.length_nil]; omega),fun H9 u => ?_⟩
        refine ⟨zx',zy',a',b',c',d',ps ++ [⟨pp,zx,zy,a,b,c,d⟩],pp',_,rfl,W7.step s8.t u pr' (by unfold stepB; rw [g6,g7]; rfl) in' hp',(dx7.t' s8.t).t' u.t,(dy7.t' s8.t).t' u.t,by simp [hl],fun b o nb e => ?_,?_⟩
        · exact u.at (fun z => by subst z; rw [nl] at e; cases e) (s8 _ _ (b7 b o nb (b6 b o nb (b5 b o nb e))))
        · obtain ⟨x,y,z,ep,rest⟩ := (p7.same s8).mono (k' := k + 30 + 40 * ((i + 1 : Nat) : Int)) (by omega)
          exact ⟨x,y,z,u.at (Ne.symm npl) ep,rest⟩
      · rintro σ H5 ⟨zx,zy,a,b,c,d,ps,pp,z7,rfl,W5,dx5,dy5,hl,b5,p5⟩
        refine while_by (fun σ H6 => ∃ (zx zy : Addr) (a b c d : Int) (ps : List Pr) (pp : Addr),σ = [some (.ref p),some (.int n),some (.int m),some (.str wy),some (.ref zx),some (.ref zy),some (.ref l),z7] ∧ WInv H6 l n m wy ps ⟨pp,zx,zy,a,b,c,d⟩ ∧ Dp H6 zx a b n wy ∧ Dp H6 zy c d m wy ∧ (ps.length : Int) + (n - a / b) + (m - c / d) ≤ 8 + n + m ∧ But p H H6 ∧ Pot H6 p (k + 400))
          (fun σ H6 => match σ with | [_,_,_,_,some zx,some zy,_,_] => muP n H6 zx + muP m H6 zy | _ => 0)
          ⟨zx,zy,a,b,c,d,ps,pp,rfl,W5,dx5,dy5,by have := fl_nn dx5.low.pos dx5.n0; have := fl_nn dy5.low.pos dy5.n0; omega,b5,p5.mono (by omega)⟩ ?_ ?_
        · rintro σ H6 ⟨zx,zy,a,b,c,d,ps,pp,rfl,W6,dx6,dy6,hl6,b6,p6⟩
          have fx0 := fl_nn dx6.low.pos dx6.n0
          have fx1 := fl_le_n dx6.low.pos dx6.n1
          have fy0 := fl_nn dy6.low.pos dy6.n0
          have fy1 := fl_le_n dy6.low.pos dy6.n1
          have mu6 : ∀ {Ha : Hp} {z : Addr} {t b n' : Int},Ha z = some (.tup [.int t,.int b]) → muP n' Ha (.ref z) = (n' - t / b).toNat := fun e => by simp only [muP,e]
          have turn : ∀ (H7 : Hp),Same H6 H7 → (a / b < n ∨ c / d < m) → (tSeq (tAsg (tCall spHome [] E0 (tCons (tVar 4) (tCons (tVar 1) tNil))) (gName 4)) (tSeq (tAsg (tCall spHome [] E0 (tCons (tVar 5) (tCons (tVar 2) tNil))) (gName 5)) (tDrop (tBM K "list" rAppendA (tVar 6) (tCons (tTupA (tCons (tVar 4) (tCons (tVar 5) tNil))) tNil)))))
              { nx := fun σ' H' => (∃ (zx zy : Addr) (a b c d : Int) (ps : List Pr) (pp : Addr),σ' = [some (.ref p),some (.int n),some (.int m),some (.str wy),some (.ref zx),some (.ref zy),some (.ref l),z7] ∧ WInv H' l n m wy ps ⟨pp,zx,zy,a,b,c,d⟩ ∧ Dp H' zx a b n wy ∧ Dp H' zy c d m wy ∧ (ps.length : Int) + (n - a / b) + (m - c / d) ≤ 8 + n + m ∧ But p H H' ∧ Pot H' p (k + 400)) ∧ (match σ' with | [_,_,_,_,some zx,some zy,_,_] => muP n H' zx + muP m H' zy | _ => 0) < muP n H6 (.ref zx) + muP m H6 (.ref zy),rt := Q } [some (.ref p),some (.int n),some (.int m),some (.str wy),some (.ref zx),some (.ref zy),some (.ref l),z7] H7 := by
            intro H7 s7 hlt
            refine ⟨_,rfl,_,rfl,zx,a,b,n,wy,rfl,⟨hn0,by omega⟩,dx6.t' s7.t,fun zx' H8 dx8 g8 s8 => ?_⟩
            refine ⟨_,rfl,_,rfl,zy,c,d,m,wy,rfl,⟨hm0,by omega⟩,(dy6.t' s7.t).t' s8.t,fun zy' H9 dy9 g9 s9 => ?_⟩
            have S9 : Same H6 H9 := s7.trans (s8.trans s9)
            refine ⟨_,rfl,.inl ⟨rfl,_,SqL.of (S9 _ _ W6.at_.lst)⟩,_,rfl,_,rfl,sz (by simp),fun pp' H10 s10 f10 n10 => ?_⟩
            have S10 := S9.trans s10
            have dx10 := (dx8.t' s9.t).t' s10.t
            have dy10 := dy9.t' s10.t
            obtain ⟨pr',in',hp'⟩ := Dp.pr f10 dx10 dy10
            refine ⟨l,_,_,rfl,rfl,S10 _ _ W6.at_.lst,small1000 (by rw [prs_len,List.length_append]; simp only [List.length_cons,List.length_nil]; omega),fun H11 u => ?_⟩
            have dx11 := dx10.t' u.t
            have dy11 := dy10.t' u.t
            have hx : homeT a b n / 1 = homeT a b n := Int.ediv_one _
            have hy : homeT c d m / 1 = homeT c d m := Int.ediv_one _
            have ux : homeT a b n = a / b + 1 ∨ (homeT a b n = n ∧ a / b = n) := by unfold homeT; split <;> omega
            have uy : homeT c d m = c / d + 1 ∨ (homeT c d m = m ∧ c / d = m) := by unfold homeT; split <;> omega
            refine ⟨⟨zx',zy',homeT a b n,1,homeT c d m,1,ps ++ [⟨pp,zx,zy,a,b,c,d⟩],pp',rfl,W6.step S10.t u pr' (by unfold stepB; rw [g8,g9]; rfl) in' hp',dx11,dy11,?_,fun b o nb e => ?_,?_⟩,?_⟩
            · rw [hx,hy,List.length_append]
              simp only [List.length_cons,List.length_nil]
              omega
            · exact u.at (fun z => by subst z; rw [nl] at e; cases e) (S10 _ _ (b6 b o nb e))
            · obtain ⟨x,y,z,ep,rest⟩ := p6.same S10
              exact ⟨x,y,z,u.at (Ne.symm npl) ep,rest⟩
            · show muP n H11 (.ref zx') + muP m H11 (.ref zy') < _
              rw [mu6 dx11.at_,mu6 dy11.at_,mu6 dx6.at_,mu6 dy6.at_,hx,hy]
              omega
          have fin : ∀ (H7 : Hp),Same H6 H7 → (a = n ∧ b = 1) → (wy = wPart ∨ (c = m ∧ d = 1)) → (tRet (tVar 6)) { nx := fun _ H' => Q .non H',rt := Q } [some (.ref p),some (.int n),some (.int m),some (.str wy),some (.ref zx),some (.ref zy),some (.ref l),z7] H7 := fun H7 s7 hx hy =>
            ⟨_,rfl,q l _ H7 (W6.at_.mono s7) (W6.good hx hy) (by rw [List.length_append]; simp only [List.length_cons,List.length_nil]; omega) nl (b6.trans (But.of s7)) ((p6.same s7).mono (by omega))⟩
          have full : ∀ {t b n' : Int},Low t b → t ≤ n' * b → 0 ≤ t → decide ([t,b] = [n',1]) = false → t / b < n' := fun {t b n'} lw h1 h0 hc => by
            have hle := fl_le_n lw.pos h1
            by_cases e : t / b = n'
            · obtain ⟨rfl,rfl⟩ := fl_full lw h1 e
              simp at hc
            · omega
          refine ⟨_,rfl,_,rfl,sz (by simp),fun t1 H7 s7 g7 _ => ?_⟩
          refine ⟨zx,t1,[a,b],[n,1],rfl,rfl,SqT.of (s7 _ _ dx6.at_),SqT.of g7,_,rfl,?_⟩
          show if (!decide ([a,b] = [n,1])) = true then _ else _
          refine ite3 (fun c1 => ?_) (fun c1 => ?_)
          · exact turn H7 s7 (.inl (full dx6.low dx6.n1 dx6.n0 (by simpa only [Bool.not_eq_true'] using c1)))
          have ex : a = n ∧ b = 1 := by simpa using c1
          refine ⟨_,rfl,_,rfl,sz (by simp),fun t2 H8 s8 g8 _ => ?_⟩
          refine ⟨zy,t2,[c,d],[m,1],rfl,rfl,SqT.of (s8 _ _ (s7 _ _ dy6.at_)),SqT.of g8,_,rfl,?_⟩
          show if (!decide ([c,d] = [m,1])) = true then _ else _
          refine ite3 (fun c2 => ?_) (fun c2 => ?_)
          · refine ⟨_,rfl,rfl,_,rfl,ite3 (fun c3 => ?_) (fun c3 => ?_)⟩
            · exact turn H8 (s7.trans s8) (.inr (full dy6.low dy6.n1 dy6.n0 (by simpa only [Bool.not_eq_true'] using c2)))
            · have ew : wy = wPart := by
                have h3' : decide (V.str wy = V.str (Str.ofString "part")) = true := by simpa only [Bool.not_eq_true',Bool.not_eq_false',Bool.not_eq_false] using c3
                have := dec_t h3'
                cases this
                rfl
              exact fin H8 (s7.trans s8) ex (.inl ew)
          · have ey : c = m ∧ d = 1 := by simpa using c2
            exact fin H8 (s7.trans s8) ex (.inr ey)
        · exact mt_or (mt_test (me_op mr_eqI me_var (me_tupA (ma_cons me_var (ma_cons me_c ma_nil))))) (mt_and (mt_test (me_op mr_eqI me_var (me_tupA (ma_cons me_var (ma_cons me_c ma_nil))))) (mt_test (me_op mr_ne me_var me_c)))
    obtain ⟨u,hu,ru⟩ := R
    refine ⟨_,(pss_cons (ps_set (i := 4) S_law_drawn_walk.nd rfl (Or.inl rfl) (pe_tupA (pa_cons pe_int (pa_cons pe_int pa_nil)))) (pss_cons (ps_set (i := 5) S_law_drawn_walk.nd rfl (Or.inl rfl) (pe_tupA (pa_cons pe_int (pa_cons pe_int pa_nil)))) (pss_cons (ps_if (pt_cmpR op_eq (pv 3) pe_str (nomark _)) (pss_one (ps_set (i := 5) S_law_drawn_walk.nd rfl (Or.inl rfl) (pe_fn F_law_any (hr.mono (by decide)) (by rfl) (pa_cons (pv 0) (pa_cons (pv 2) (pa_cons (pv 3) pa_nil)))))) pss_nil) hu))),?_⟩
    refine ⟨sz (by simp),fun zx H1 s1 f1 n1 => ?_⟩
    refine ⟨sz (by simp),fun zy H2 s2 f2 n2 => ?_⟩
    have dz : ∀ {Ha : Hp} {z : Addr} {n' : Int},0 ≤ n' → Ha z = some (.tup [.int 0,.int 1]) → Dp Ha z 0 1 n' wy := fun h e => ⟨e,⟨by decide,by decide⟩,by decide,by omega,by decide,by decide,fun _ => rfl⟩
    have p2 := (pt.same s1).same s2
    have b2 : But p H H2 := (But.of s1).trans (But.of s2)
    refine ⟨_,rfl,rfl,_,rfl,ite3 (fun h1 => ?_) (fun h1 => ?_)⟩
    · have ew : wy = wPart := by
        have := dec_t h1
        cases this
        rfl
      refine ⟨_,rfl,_,rfl,_,rfl,p,m,_,wy,rfl,p2,by omega,⟨hm0,by omega⟩,fun z t b H3 d3 b3 p3 => ?_⟩
      exact ru zx z t b H3 ((dz hn0 (s2 _ _ f1)).t' (b3.t p2)) d3 (fun z => absurd ew z) (b2.trans b3) p3
    · exact ru zx zy 0 1 H2 (dz hn0 (s2 _ _ f1)) (dz hm0 f2) (fun _ => ⟨rfl,rfl⟩) b2 (p2.mono (by omega))
def spDown : Sp := fun vs H Q _ => ∃ (p z0 : Addr) (t0 b0 n k : Int) (wy : Str),vs = [.ref p,.ref z0,.str wy] ∧ Pot H p k ∧ k ≤ 700000 ∧ (0 ≤ n ∧ n ≤ 50) ∧ Dp H z0 t0 b0 n wy ∧ ∀ (z : Addr) (t b : Int) (H' : Hp),Dp H' z t b n wy → shareB t0 b0 t b = true → (wy = wHops → t0 - t ≤ 1) → But p H H' → Pot H' p (k + 20) → Q (.ref z) H'
def spOver : Sp := fun vs H Q _ => ∃ (p z0 : Addr) (t0 b0 n k : Int) (wy : Str),vs = [.ref p,.ref z0,.int n,.str wy] ∧ Pot H p k ∧ k ≤ 700000 ∧ (0 ≤ n ∧ n ≤ 50) ∧ Dp H z0 t0 b0 n wy ∧ ∀ (z : Addr) (t b : Int) (H' : Hp),Dp H' z t b n wy → shareB t0 b0 t b = true → (wy = wHops → t - t0 ≤ 1) → But p H H' → Pot H' p (k + 20) → Q (.ref z) H'
def spPick (g : Int → Int → Int → Int → Bool) : Sp := fun vs H Q _ => ∃ (p q : Addr) (a b c d : Int),vs = [.ref p,.ref q] ∧ H p = some (.tup [.int a,.int b]) ∧ H q = some (.tup [.int c,.int d]) ∧ (bits a ≤ 2000 ∧ bits b ≤ 2000 ∧ bits c ≤ 2000 ∧ bits d ≤ 2000) ∧ Q (.ref (if g a b c d = true then q else p)) H
theorem down_at {t b n : Int} (hb : 0 < b) (h0 : 0 ≤ t) (h1 : t ≤ n * b) : (0 ≤ (if (t - 1) / b > 0 then (t - 1) / b else 0) ∧ (if (t - 1) / b > 0 then (t - 1) / b else 0) * b ≤ t ∧ t ≤ ((if (t - 1) / b > 0 then (t - 1) / b else 0) + 1) * b) ∧ (0 < t → (if (t - 1) / b > 0 then (t - 1) / b else 0) + 1 ≤ n) := by
  have q1 := fl_le (a := t - 1) hb
  have q2 := fl_lt (a := t - 1) hb
  have q3 : t - 1 < n * b → (t - 1) / b < n := fun h => Int.ediv_lt_of_lt_mul hb h
  have q4 : 0 ≤ n := by
    by_cases c : 0 ≤ n
    · exact c
    · have := Int.mul_neg_of_neg_of_pos (show n < 0 by omega) hb
      omega
  have q5 : 0 < t → 0 ≤ (t - 1) / b := fun h => fl_nn hb (by omega)
  split
  · rename_i h
    exact ⟨⟨by omega,by omega,by omega⟩,fun _ => by have := q3 (by omega); omega⟩
  · rename_i h
    refine ⟨⟨by omega,by omega,?_⟩,fun z => ?_⟩
    · have : ((t - 1) / b + 1) * b ≤ (0 + 1) * b := Int.mul_le_mul_of_nonneg_right (by omega) (by omega)
      omega
    · have := q3 (by omega)
      have := q5 z
      omega
theorem S_law_lesser : FnScope ["one","other"] ["one","other"] (defScope (top 85)) := ⟨rfl,rfl,rfl,by decide +kernel,rfl,by decide +kernel,by decide +kernel⟩
theorem fn_law_lesser (D_law_lesser : Df K mg "_law_lesser" (top 85)) (F_law_below : Fn P w K mg base "_law_below" ["one","other"] 1 spLess) : Fn P w K mg base "_law_lesser" ["one","other"] 2 (spPick fun a b c d => ltB c d a b) := by
  refine D_law_lesser.fn S_law_lesser (fun _ _ _ _ _ _ us hl => by obtain ⟨_,_,rfl⟩ := len2 hl; rfl) (fun vs H Q E h => ?_) (fun f cdv A outer s H vs Q E hr h => ?_)
  · obtain ⟨p,q,a,b,c,d,rfl,_⟩ := h
    rfl
  · obtain ⟨p,q,a,b,c,d,rfl,ep,eq,⟨ba,bb,bc,bd⟩,k⟩ := h
    refine ⟨_,(pss_cons (ps_if (pt_val (pe_fn F_law_below (hr.mono (by decide)) (by rfl) (pa_cons (pv 1) (pa_cons (pv 0) pa_nil)))) (pss_one (ps_ret (pv 1))) pss_nil) (pss_one (ps_ret (pv 0)))),?_⟩
    dsimp only at k
    unfold ltB at k
    refine ⟨_,rfl,_,rfl,q,p,c,d,a,b,rfl,eq,ep,⟨bc,bd,ba,bb⟩,_,rfl,ite3 (fun h1 => ?_) (fun h1 => ?_)⟩
    · rw [if_pos h1] at k
      exact ⟨_,rfl,k⟩
    · rw [if_neg (by rw [h1]; decide)] at k
      exact ⟨_,rfl,k⟩
theorem S_law_greater : FnScope ["one","other"] ["one","other"] (defScope (top 86)) := ⟨rfl,rfl,rfl,by decide +kernel,rfl,by decide +kernel,by decide +kernel⟩
theorem fn_law_greater (D_law_greater : Df K mg "_law_greater" (top 86)) (F_law_below : Fn P w K mg base "_law_below" ["one","other"] 1 spLess) : Fn P w K mg base "_law_greater" ["one","other"] 2 (spPick fun a b c d => ltB a b c d) := by
  refine D_law_greater.fn S_law_greater (fun _ _ _ _ _ _ us hl => by obtain ⟨_,_,rfl⟩ := len2 hl; rfl) (fun vs H Q E h => ?_) (fun f cdv A outer s H vs Q E hr h => ?_)
  · obtain ⟨p,q,a,b,c,d,rfl,_⟩ := h
    rfl
  · obtain ⟨p,q,a,b,c,d,rfl,ep,eq,⟨ba,bb,bc,bd⟩,k⟩ := h
    refine ⟨_,(pss_cons (ps_if (pt_val (pe_fn F_law_below (hr.mono (by decide)) (by rfl) (pa_cons (pv 0) (pa_cons (pv 1) pa_nil)))) (pss_one (ps_ret (pv 1))) pss_nil) (pss_one (ps_ret (pv 0)))),?_⟩
    dsimp only at k
    unfold ltB at k
    refine ⟨_,rfl,_,rfl,p,q,a,b,c,d,rfl,ep,eq,⟨ba,bb,bc,bd⟩,_,rfl,ite3 (fun h1 => ?_) (fun h1 => ?_)⟩
    · rw [if_pos h1] at k
      exact ⟨_,rfl,k⟩
    · rw [if_neg (by rw [h1]; decide)] at k
      exact ⟨_,rfl,k⟩
theorem S_law_down : FnScope ["pot","y","way","at","spot"] ["pot","y","way"] (defScope (top 92)) := ⟨rfl,rfl,rfl,by decide +kernel,rfl,by decide +kernel,by decide +kernel⟩
theorem fn_law_down (D_law_down : Df K mg "_law_down" (top 92)) (F_law_take : Fn P w K mg base "_law_take" ["pot","size"] 1 Dr.spTk) (F_law_spot_on : Fn P w K mg base "_law_spot_on" ["pot","at"] 3 spSpot) (F_law_below : Fn P w K mg base "_law_below" ["one","other"] 1 spLess) (T : Txt mg) : Fn P w K mg base "_law_down" ["pot","y","way"] 4 spDown := by
  refine D_law_down.fn S_law_down (fun _ _ _ _ _ _ us hl => by obtain ⟨_,_,_,rfl⟩ := len3 hl; rfl) (fun vs H Q E h => ?_) (fun f cdv A outer s H vs Q E hr h => ?_)
  · obtain ⟨p,z0,t0,b0,n,k,wy,rfl,_⟩ := h
    rfl
  · obtain ⟨p,z0,t0,b0,n,k,wy,rfl,pt,hk,⟨hn0,hn1⟩,d0,q⟩ := h
    have hb : (0 : Int) < b0 := d0.low.pos
    have bb0 : bits b0 ≤ 8000 := bits_le d0.bb (by decide)
    obtain ⟨⟨A0,A1,A2⟩,A3⟩ := down_at hb d0.n0 d0.n1
    have R4 : ∃ p4,PSs (cxOf CX0 P w K mg base ["pot","y","way","at","spot"] "_law_down" (defScope (top 92)) f cdv A outer s H E).nox ((defBody (top 92)).drop 3) p4 ∧ ∀ (H4 : Hp) (at_ : Option V) (zs : Addr) (t b : Int),Dp H4 zs t b n wy → shareB t0 b0 t b = true → (wy = wHops → t0 - t ≤ 1) → But p H H4 → Pot H4 p (k + 20) → p4 { nx := fun _ H' => Q .non H',rt := Q } [some (.ref p),some (.ref z0),some (.str wy),at_,some (.ref zs)] H4 := by
      refine ⟨_,(pss_cons (ps_if (pw_and (pt_cmpR op_ne (pv 2) pe_str (nomark _)) (pw_and1 (pt_val (pe_fn F_law_below (hr.mono (by decide)) (by rfl) (pa_cons (pv 1) (pa_cons (pv 4) pa_nil)))))).pt (pss_one (ps_ret (pv 1))) pss_nil) (pss_one (ps_ret (pv 4)))),fun H4 at_ zs t b d4 sh hp b4 p4 => ?_⟩
      have d04 := d0.t' (b4.t pt)
      have stay : Q (.ref z0) H4 := q z0 t0 b0 H4 d04 (share_of (k := t0 / b0) hb hb (fl_le hb) (by have := fl_lt (a := t0) hb; omega) (fl_le hb) (by have := fl_lt (a := t0) hb; omega)) (fun _ => by omega) b4 p4
      refine ⟨_,rfl,rfl,_,rfl,ite3 (fun h3 => ?_) (fun h3 => ?_)⟩
      · refine ⟨_,rfl,_,rfl,z0,zs,_,_,_,_,rfl,d04.at_,d4.at_,⟨bits_le d04.bt (by decide),bits_le d04.bb (by decide),bits_le d4.bt (by decide),bits_le d4.bb (by decide)⟩,_,rfl,ite3 (fun h4 => ?_) (fun h4 => ?_)⟩
        · exact ⟨_,rfl,stay⟩
        · exact ⟨_,rfl,q zs t b H4 d4 sh hp b4 p4⟩
      · exact ⟨_,rfl,q zs t b H4 d4 sh hp b4 p4⟩
    obtain ⟨p4,hp4,rd4⟩ := R4
    refine ⟨_,(pss_cons (ps_set (i := 3) S_law_down.nd rfl (Or.inl rfl) (pe_callB (call_max2 rfl) (by rfl) T.z_max bt_max (pa_cons pe_int (pa_cons (pe_op op_fdivP (pe_op op_sub (pe_ix ix_tup (pv 1) pe_int (fun _ _ => rfl)) pe_int) (pe_ix ix_tup (pv 1) pe_int (fun _ _ => rfl))) pa_nil)))) (pss_cons (ps_set (i := 4) S_law_down.nd rfl (Or.inl rfl) (pe_tupA (pa_cons (pv 3) (pa_cons pe_int pa_nil)))) (pss_cons (ps_if (pw_and (pt_cmpR op_ne (pv 2) pe_str (nomark _)) (pw_and (pt_cmpR op_gt (pe_ix ix_tup (pv 1) pe_int (fun _ _ => rfl)) pe_int (nomark _)) (pw_and1 (pt_cmpR op_eq (pe_fn F_law_take (hr.mono (by decide)) (by rfl) (pa_cons (pv 0) (pa_cons pe_int pa_nil))) pe_int (nomark _))))).pt (pss_one (ps_set (i := 4) S_law_down.nd rfl (Or.inl rfl) (pe_fn F_law_spot_on (hr.mono (by decide)) (by rfl) (pa_cons (pv 0) (pa_cons (pv 3) pa_nil))))) pss_nil) hp4))),?_⟩
    have TZ := SqT.of (K := K) d0.at_
    refine ⟨_,rfl,z0,_,_,_,rfl,rfl,TZ,rfl,_,_,rfl,rfl,_,rfl,z0,_,_,_,rfl,rfl,TZ,rfl,_,_,rfl,rfl,⟨hb,bb0⟩,_,_,rfl,?_⟩
    generalize (if (t0 - 1) / b0 > 0 then (t0 - 1) / b0 else 0) = at1 at *
    refine ⟨_,rfl,sz (by simp),fun zs H3 s3 f3 n3 => ?_⟩
    have hA : at1 ≤ n := by
      by_cases z : 0 < t0
      · have := A3 z
        omega
      · have e : t0 = 0 := by have := d0.n0; omega
        by_cases c : at1 ≤ 0
        · omega
        · have := Int.mul_pos (show 0 < at1 by omega) hb
          omega
    have dS : Dp H3 zs at1 1 n wy := ⟨f3,⟨by decide,Int.gcd_one⟩,A0,by omega,bits_le (bits_small (by omega) (by omega)) (by decide),by decide,fun _ => rfl⟩
    have shS : shareB t0 b0 at1 1 = true := share_of (k := at1) hb (by decide) A1 A2 (by omega) (by omega)
    have hpS : wy = wHops → t0 - at1 ≤ 1 := fun z => by
      have e := d0.hop z
      subst e
      omega
    have b3 : But p H H3 := But.of s3
    have p3 := pt.same s3
    have T3 := SqT.of (K := K) (s3 _ _ d0.at_)
    refine ⟨_,rfl,rfl,_,rfl,ite3 (fun h1 => ?_) (fun h1 => ?_)⟩
    · have hw : ¬ wy = wHops := dec_f (ds (show decide (V.str wy = V.str (Str.ofString "hops")) = false by simpa only [Bool.not_eq_true'] using h1))
      refine ⟨_,rfl,z0,_,_,_,rfl,rfl,T3,rfl,_,_,rfl,rfl,_,rfl,ite3 (fun h2 => ?_) (fun h2 => ?_)⟩
      · have h2 : t0 > 0 := dec_t h2
        refine ⟨_,rfl,p,_,_,rfl,p3,by omega,⟨by decide,by decide⟩,fun r1 H4 _ _ b4 p4 => ?_⟩
        have B4 := b3.trans b4
        refine ⟨rfl,_,rfl,ite3 (fun h3 => ?_) (fun h3 => ?_)⟩
        · refine ⟨_,rfl,_,rfl,p,_,_,rfl,p4,by omega,⟨A0,by omega⟩,fun z t b H5 lw g1 g2 bt bb b5 f5 p5 => ?_⟩
          have hbz := lw.pos
          have m0 : 0 ≤ at1 * b := Int.mul_nonneg A0 (by omega)
          have m1 : (at1 + 1) * b ≤ n * b := Int.mul_le_mul_of_nonneg_right (A3 h2) (by omega)
          exact rd4 H5 _ z t b ⟨f5,lw,by omega,by omega,bt,bb,fun z => absurd z hw⟩ (share_of (k := at1) hb (by omega) A1 A2 g1 g2) (fun z => absurd z hw) (B4.trans b5) (p5.mono (by omega))
        · exact rd4 H4 _ zs at1 1 (dS.t' (b4.t p3)) shS hpS B4 (p4.mono (by omega))
      · exact rd4 H3 _ zs at1 1 dS shS hpS b3 (p3.mono (by omega))
    · exact rd4 H3 _ zs at1 1 dS shS hpS b3 (p3.mono (by omega))
theorem S_law_over : FnScope ["pot","x","last","way","at","spot"] ["pot","x","last","way"] (defScope (top 93)) := ⟨rfl,rfl,rfl,by decide +kernel,rfl,by decide +kernel,by decide +kernel⟩
theorem fn_law_over (D_law_over : Df K mg "_law_over" (top 93)) (F_law_take : Fn P w K mg base "_law_take" ["pot","size"] 1 Dr.spTk) (F_law_spot_on : Fn P w K mg base "_law_spot_on" ["pot","at"] 3 spSpot) (F_law_below : Fn P w K mg base "_law_below" ["one","other"] 1 spLess) (T : Txt mg) : Fn P w K mg base "_law_over" ["pot","x","last","way"] 4 spOver := by
  refine D_law_over.fn S_law_over (fun _ _ _ _ _ _ us hl => by obtain ⟨_,_,_,_,rfl⟩ := len4 hl; rfl) (fun vs H Q E h => ?_) (fun f cdv A outer s H vs Q E hr h => ?_)
  · obtain ⟨p,z0,t0,b0,n,k,wy,rfl,_⟩ := h
    rfl
  · obtain ⟨p,z0,t0,b0,n,k,wy,rfl,pt,hk,⟨hn0,hn1⟩,d0,q⟩ := h
    have hb : (0 : Int) < b0 := d0.low.pos
    have bb0 : bits b0 ≤ 8000 := bits_le d0.bb (by decide)
    have f0 := fl_nn hb d0.n0
    have f1 := fl_le_n hb d0.n1
    have g1 := fl_le (a := t0) hb
    have g2 := fl_lt (a := t0) hb
    have R4 : ∃ p4,PSs (cxOf CX0 P w K mg base ["pot","x","last","way","at","spot"] "_law_over" (defScope (top 93)) f cdv A outer s H E).nox ((defBody (top 93)).drop 3) p4 ∧ ∀ (H4 : Hp) (at_ : Option V) (zs : Addr) (t b : Int),Dp H4 zs t b n wy → shareB t0 b0 t b = true → (wy = wHops → t - t0 ≤ 1) → But p H H4 → Pot H4 p (k + 20) → p4 { nx := fun _ H' => Q .non H',rt := Q } [some (.ref p),some (.ref z0),some (.int n),some (.str wy),at_,some (.ref zs)] H4 := by
      refine ⟨_,(pss_cons (ps_if (pw_and (pt_cmpR op_ne (pv 3) pe_str (nomark _)) (pw_and1 (pt_val (pe_fn F_law_below (hr.mono (by decide)) (by rfl) (pa_cons (pv 5) (pa_cons (pv 1) pa_nil)))))).pt (pss_one (ps_ret (pv 1))) pss_nil) (pss_one (ps_ret (pv 5)))),fun H4 at_ zs t b d4 sh hp b4 p4 => ?_⟩
      have d04 := d0.t' (b4.t pt)
      have stay : Q (.ref z0) H4 := q z0 t0 b0 H4 d04 (share_of (k := t0 / b0) hb hb g1 (by omega) g1 (by omega)) (fun _ => by omega) b4 p4
      refine ⟨_,rfl,rfl,_,rfl,ite3 (fun h3 => ?_) (fun h3 => ?_)⟩
      · refine ⟨_,rfl,_,rfl,zs,z0,_,_,_,_,rfl,d4.at_,d04.at_,⟨bits_le d4.bt (by decide),bits_le d4.bb (by decide),bits_le d04.bt (by decide),bits_le d04.bb (by decide)⟩,_,rfl,ite3 (fun h4 => ?_) (fun h4 => ?_)⟩
        · exact ⟨_,rfl,stay⟩
        · exact ⟨_,rfl,q zs t b H4 d4 sh hp b4 p4⟩
      · exact ⟨_,rfl,q zs t b H4 d4 sh hp b4 p4⟩
    obtain ⟨p4,hp4,rd4⟩ := R4
    refine ⟨_,(pss_cons (ps_set (i := 4) S_law_over.nd rfl (Or.inl rfl) (pe_callB (call_min2 rfl) (by rfl) T.z_min bt_min (pa_cons (pv 2) (pa_cons (pe_op op_add (pe_op op_fdivP (pe_ix ix_tup (pv 1) pe_int (fun _ _ => rfl)) (pe_ix ix_tup (pv 1) pe_int (fun _ _ => rfl))) pe_int) pa_nil)))) (pss_cons (ps_set (i := 5) S_law_over.nd rfl (Or.inl rfl) (pe_tupA (pa_cons (pv 4) (pa_cons pe_int pa_nil)))) (pss_cons (ps_if (pw_and (pt_cmpR op_ne (pv 3) pe_str (nomark _)) (pw_and (pt_cmpR op_gt (pv 4) pe_int (nomark _)) (pw_and (pt_cmpR (op_neI hr.units0) (pv 1) (pe_tupA (pa_cons (pv 2) (pa_cons pe_int pa_nil))) (nomark _)) (pw_and1 (pt_cmpR op_eq (pe_fn F_law_take (hr.mono (by decide)) (by rfl) (pa_cons (pv 0) (pa_cons pe_int pa_nil))) pe_int (nomark _)))))).pt (pss_one (ps_set (i := 5) S_law_over.nd rfl (Or.inl rfl) (pe_fn F_law_spot_on (hr.mono (by decide)) (by rfl) (pa_cons (pv 0) (pa_cons (pe_op op_sub (pv 4) pe_int) pa_nil))))) pss_nil) hp4))),?_⟩
    have TZ := SqT.of (K := K) d0.at_
    refine ⟨_,rfl,_,rfl,z0,_,_,_,rfl,rfl,TZ,rfl,_,rfl,z0,_,_,_,rfl,rfl,TZ,rfl,_,_,rfl,rfl,⟨hb,bb0⟩,_,_,rfl,rfl,_,_,rfl,?_⟩
    have A0 : t0 / b0 ≤ (if t0 / b0 + 1 < n then t0 / b0 + 1 else n) ∧ (if t0 / b0 + 1 < n then t0 / b0 + 1 else n) ≤ t0 / b0 + 1 ∧ (if t0 / b0 + 1 < n then t0 / b0 + 1 else n) ≤ n ∧ (t0 / b0 < n → (if t0 / b0 + 1 < n then t0 / b0 + 1 else n) = t0 / b0 + 1) := by
      split <;> omega
    generalize (if t0 / b0 + 1 < n then t0 / b0 + 1 else n) = at1 at *
    obtain ⟨A1,A2,A3,A4⟩ := A0
    refine ⟨_,rfl,sz (by simp),fun zs H3 s3 f3 n3 => ?_⟩
    have dS : Dp H3 zs at1 1 n wy := ⟨f3,⟨by decide,Int.gcd_one⟩,by omega,by omega,bits_le (bits_small (by omega) (by omega)) (by decide),by decide,fun _ => rfl⟩
    have shS : shareB t0 b0 at1 1 = true := share_of (k := t0 / b0) hb (by decide) g1 (by omega) (by omega) (by omega)
    have hpS : wy = wHops → at1 - t0 ≤ 1 := fun z => by
      have e := d0.hop z
      subst e
      rw [Int.ediv_one] at A2
      omega
    have b3 : But p H H3 := But.of s3
    have p3 := pt.same s3
    refine ⟨_,rfl,rfl,_,rfl,ite3 (fun h1 => ?_) (fun h1 => ?_)⟩
    · have hw : ¬ wy = wHops := dec_f (ds (show decide (V.str wy = V.str (Str.ofString "hops")) = false by simpa only [Bool.not_eq_true'] using h1))
      refine ⟨_,rfl,_,_,rfl,rfl,_,rfl,ite3 (fun h2 => ?_) (fun h2 => ?_)⟩
      · refine ⟨_,rfl,_,rfl,sz (by simp),fun t2 H4 s4 f4 _ => ?_⟩
        have B4 := b3.trans (But.of (p := p) s4)
        have p4 := p3.same s4
        have d4 := d0.t' (B4.t pt)
        refine ⟨z0,t2,[t0,b0],[n,1],rfl,rfl,SqT.of d4.at_,SqT.of f4,_,rfl,?_⟩
        show if (!decide ([t0,b0] = [n,1])) = true then _ else _
        refine ite3 (fun h5 => ?_) (fun h5 => ?_)
        · have h5 : ¬ [t0,b0] = [n,1] := of_decide_eq_false (by simpa only [Bool.not_eq_true'] using h5)
          have hlt : t0 / b0 < n := by
            by_cases c : t0 / b0 = n
            · obtain ⟨e1,e2⟩ := fl_full d0.low d0.n1 c
              rw [e1,e2] at h5
              exact absurd rfl h5
            · omega
          have e4 := A4 hlt
          refine ⟨_,rfl,p,_,_,rfl,p4,by omega,⟨by decide,by decide⟩,fun r1 H5 _ _ b5 p5 => ?_⟩
          have B5 := B4.trans b5
          refine ⟨rfl,_,rfl,ite3 (fun h3 => ?_) (fun h3 => ?_)⟩
          · refine ⟨_,rfl,_,rfl,_,_,rfl,rfl,p,_,_,rfl,p5,by omega,⟨by omega,by omega⟩,fun z t b H6 lw j1 j2 bt bb b6 f6 p6 => ?_⟩
            have hbz := lw.pos
            have ea : at1 - 1 = t0 / b0 := by omega
            rw [ea] at j1 j2
            have m0 : 0 ≤ t0 / b0 * b := Int.mul_nonneg f0 (by omega)
            have m1 : (t0 / b0 + 1) * b ≤ n * b := Int.mul_le_mul_of_nonneg_right (by omega) (by omega)
            exact rd4 H6 _ z t b ⟨f6,lw,by omega,by omega,bt,bb,fun z => absurd z hw⟩ (share_of (k := t0 / b0) hb (by omega) g1 (by omega) j1 j2) (fun z => absurd z hw) (B5.trans b6) (p6.mono (by omega))
          · exact rd4 H5 _ zs at1 1 ((dS.t' s4.t).t' (b5.t p4)) shS hpS B5 (p5.mono (by omega))
        · exact rd4 H4 _ zs at1 1 (dS.t' s4.t) shS hpS B4 (p4.mono (by omega))
      · exact rd4 H3 _ zs at1 1 dS shS hpS b3 (p3.mono (by omega))
    · exact rd4 H3 _ zs at1 1 dS shS hpS b3 (p3.mono (by omega))
structure Fp (H : Hp) (v : Pr) (n m : Int) (wy : Str) : Prop where
  e : H v.p = some (.tup [.ref v.x,.ref v.y])
  dx : Dp H v.x v.a v.b n wy
  dy : Dp H v.y v.c v.d m wy
  fr : wy = wFree → v.b = 1 ∨ v.d = 1
theorem Fp.t {H H' : Hp} {v : Pr} {n m : Int} {wy : Str} (h : Fp H v n m wy) (s : SameT H H') : Fp H' v n m wy := ⟨s _ _ h.e,h.dx.t' s,h.dy.t' s,h.fr⟩
theorem may_keepX {wy : Str} {u v : Pr} (h1 : u.b = 1) (e1 : v.a = u.a) (e2 : v.b = u.b) (sh : shareB u.c u.d v.c v.d = true) (hp : wy = wHops → u.c - v.c ≤ 1) : mayB wy u v = true := by
  have k : keepX u v = true := by
    unfold keepX
    rw [e1,e2,sh,decide_eq_true rfl,decide_eq_true h1]
    rfl
  unfold mayB slideB
  rw [k]
  by_cases h : wy = wHops
  · rw [if_pos h]
    unfold asideB
    rw [decide_eq_true (show v.a - u.a ≤ 0 by omega),decide_eq_true (hp h)]
    rfl
  · rw [if_neg h]
    by_cases hf : wy = wFree
    · rw [if_pos hf]; rfl
    · rw [if_neg hf]; simp
theorem may_keepY {wy : Str} {u v : Pr} (h1 : u.d = 1) (e1 : v.c = u.c) (e2 : v.d = u.d) (sh : shareB u.a u.b v.a v.b = true) (hp : wy = wHops → v.a - u.a ≤ 1) : mayB wy u v = true := by
  have k : keepY u v = true := by
    unfold keepY
    rw [e1,e2,sh,decide_eq_true rfl,decide_eq_true h1]
    rfl
  unfold mayB slideB
  rw [k]
  by_cases h : wy = wHops
  · rw [if_pos h]
    unfold asideB
    rw [decide_eq_true (hp h),decide_eq_true (show u.c - v.c ≤ 0 by omega)]
    simp
  · rw [if_neg h]
    by_cases hf : wy = wFree
    · rw [if_pos hf]; simp
    · rw [if_neg hf]; simp
theorem may_back {wy : Str} {u v : Pr} (hf : ¬ wy = wFree) (h1 : ¬ u.a * v.b < v.a * u.b) (h2 : ¬ v.c * u.d < u.c * v.d) (hp : wy = wHops → u.b = 1 ∧ u.d = 1 ∧ v.b = 1 ∧ v.d = 1) : mayB wy u v = true := by
  unfold mayB
  by_cases h : wy = wHops
  · obtain ⟨a1,a2,a3,a4⟩ := hp h
    rw [a1,a3] at h1
    rw [a2,a4] at h2
    rw [if_pos h]
    unfold asideB
    rw [decide_eq_true (show v.a - u.a ≤ 0 by omega),decide_eq_true (show u.c - v.c ≤ 1 by omega)]
    rfl
  · rw [if_neg h,if_neg hf]
    unfold backB ltB
    rw [decide_eq_false h1,decide_eq_false h2]
    rfl
def spNext : Sp := fun vs H Q _ => ∃ (p : Addr) (u : Pr) (n m k : Int) (wy : Str),vs = [.ref p,.ref u.p,.int n,.int m,.str wy] ∧ Pot H p k ∧ k ≤ 600000 ∧ (0 ≤ n ∧ n ≤ 50) ∧ (0 ≤ m ∧ m ≤ 50) ∧ Fp H u n m wy ∧ ∀ (v : Pr) (H' : Hp),Fp H' v n m wy → mayB wy u v = true → But p H H' → Pot H' p (k + 50) → Q (.ref v.p) H'
theorem S_law_next : FnScope ["pot","pair","n","m","way","x","y","turn"] ["pot","pair","n","m","way"] (defScope (top 94)) := ⟨rfl,rfl,rfl,by decide +kernel,rfl,by decide +kernel,by decide +kernel⟩
theorem fn_law_next (D_law_next : Df K mg "_law_next" (top 94)) (F_law_take : Fn P w K mg base "_law_take" ["pot","size"] 1 Dr.spTk) (F_law_any : Fn P w K mg base "_law_any" ["pot","last","way"] 4 spAny) (F_law_lesser : Fn P w K mg base "_law_lesser" ["one","other"] 2 (spPick fun a b c d => ltB c d a b)) (F_law_greater : Fn P w K mg base "_law_greater" ["one","other"] 2 (spPick fun a b c d => ltB a b c d)) (F_law_down : Fn P w K mg base "_law_down" ["pot","y","way"] 4 spDown) (F_law_over : Fn P w K mg base "_law_over" ["pot","x","last","way"] 4 spOver) : Fn P w K mg base "_law_next" ["pot","pair","n","m","way"] 5 spNext := by
  refine D_law_next.fn S_law_next (fun _ _ _ _ _ _ us hl => by obtain ⟨_,_,_,_,_,rfl⟩ := len5 hl; rfl) (fun vs H Q E h => ?_) (fun f cdv A outer s H vs Q E hr h => ?_)
  · obtain ⟨p,u,n,m,k,wy,rfl,_⟩ := h
    rfl
  · obtain ⟨p,u,n,m,k,wy,rfl,pt,hk,⟨hn0,hn1⟩,⟨hm0,hm1⟩,fu,q⟩ := h
    have ub : (0 : Int) < u.b := fu.dx.low.pos
    have ud : (0 : Int) < u.d := fu.dy.low.pos
    have sX : shareB u.a u.b u.a u.b = true := share_of (k := u.a / u.b) ub ub (fl_le ub) (by have := fl_lt (a := u.a) ub; omega) (fl_le ub) (by have := fl_lt (a := u.a) ub; omega)
    have sY : shareB u.c u.d u.c u.d = true := share_of (k := u.c / u.d) ud ud (fl_le ud) (by have := fl_lt (a := u.c) ud; omega) (fl_le ud) (by have := fl_lt (a := u.c) ud; omega)
    have R7 : ∃ p7,PSs (cxOf CX0 P w K mg base ["pot","pair","n","m","way","x","y","turn"] "_law_next" (defScope (top 94)) f cdv A outer s H E).nox ((defBody (top 94)).drop 7) p7 ∧ ∀ (tn : Int) (H2 : Hp),But p H H2 → Pot H2 p (k + 1) → p7 { nx := fun _ H' => Q .non H',rt := Q } [some (.ref p),some (.ref u.p),some (.int n),some (.int m),some (.str wy),some (.ref u.x),some (.ref u.y),some (.int tn)] H2 := by
      refine ⟨_,(pss_one (ps_ret (pv 1))),fun tn H2 b2 p2 => ?_⟩
      have f2 := fu.t (b2.t pt)
      have X2 := SqT.of (K := K) f2.dx.at_
      have Y2 := SqT.of (K := K) f2.dy.at_
      refine ⟨_,rfl,q u H2 f2 ?_ b2 (p2.mono (by omega))⟩
      by_cases hf : wy = wFree
      · have nh : ¬ wy = wHops := fun z => absurd (z.symm.trans hf) (by decide)
        rcases fu.fr hf with h1 | h1
        · exact may_keepX h1 rfl rfl sY (fun z => absurd z nh)
        · exact may_keepY h1 rfl rfl sX (fun z => absurd z nh)
      · exact may_back hf (by omega) (by omega) fun z => ⟨fu.dx.hop z,fu.dy.hop z,fu.dx.hop z,fu.dy.hop z⟩
    obtain ⟨p7,hp7,rd7⟩ := R7
    have R6 : ∃ p6,PSs (cxOf CX0 P w K mg base ["pot","pair","n","m","way","x","y","turn"] "_law_next" (defScope (top 94)) f cdv A outer s H E).nox ((defBody (top 94)).drop 6) p6 ∧ ∀ (tn : Int) (H2 : Hp),But p H H2 → Pot H2 p (k + 1) → p6 { nx := fun _ H' => Q .non H',rt := Q } [some (.ref p),some (.ref u.p),some (.int n),some (.int m),some (.str wy),some (.ref u.x),some (.ref u.y),some (.int tn)] H2 := by
      refine ⟨_,pss_cons (ps_if (pw_and (pt_cmpR op_eq (pe_ix ix_tup (pv 6) pe_int (fun _ _ => rfl)) pe_int (nomark _)) (pw_and1 (pt_cmpR op_eq (pv 4) pe_str (nomark _)))).pt (pss_one (ps_ret (pe_tupA (pa_cons (pe_fn F_law_down (hr.mono (by decide)) (by rfl) (pa_cons (pv 0) (pa_cons (pv 5) (pa_cons (pv 4) pa_nil)))) (pa_cons (pv 6) pa_nil))))) pss_nil) hp7,fun tn H2 b2 p2 => ?_⟩
      have f2 := fu.t (b2.t pt)
      have X2 := SqT.of (K := K) f2.dx.at_
      have Y2 := SqT.of (K := K) f2.dy.at_
      refine ⟨_,rfl,u.y,_,_,_,rfl,rfl,Y2,rfl,rfl,_,rfl,?_⟩
      rw [di]
      refine ite3 (fun h1 => ?_) (fun h1 => ?_)
      · have h1 : u.d = 1 := dec_t h1
        refine ⟨_,rfl,rfl,_,rfl,ite3 (fun c3 => ?_) (fun c3 => ?_)⟩
        · refine ⟨_,rfl,_,rfl,_,rfl,p,u.x,_,_,n,_,_,rfl,p2,by omega,⟨hn0,hn1⟩,f2.dx,fun z t b H3 d3 sh hp b3 p3 => ?_⟩
          refine ⟨_,rfl,sz (by simp),fun pp H4 s4 f4 _ => ?_⟩
          exact q ⟨pp,z,u.y,t,b,u.c,u.d⟩ H4 ⟨f4,d3.t' s4.t,(f2.dy.t' (b3.t p2)).t' s4.t,fun _ => .inr h1⟩ (may_keepY h1 rfl rfl sh (fun z => absurd (z.symm.trans (show wy = wFree from dec_t (ds c3))) (by decide))) (b2.trans (b3.trans (But.of s4))) ((p3.same s4).mono (by omega))
        · exact rd7 tn H2 b2 p2
      · exact rd7 tn H2 b2 p2
    obtain ⟨p6,hp6,rd6⟩ := R6
    have R5 : ∃ p5,PSs (cxOf CX0 P w K mg base ["pot","pair","n","m","way","x","y","turn"] "_law_next" (defScope (top 94)) f cdv A outer s H E).nox ((defBody (top 94)).drop 5) p5 ∧ ∀ (tn : Int) (H2 : Hp),But p H H2 → Pot H2 p (k + 1) → p5 { nx := fun _ H' => Q .non H',rt := Q } [some (.ref p),some (.ref u.p),some (.int n),some (.int m),some (.str wy),some (.ref u.x),some (.ref u.y),some (.int tn)] H2 := by
      refine ⟨_,pss_cons (ps_if (pw_and (pt_cmpR op_eq (pe_ix ix_tup (pv 6) pe_int (fun _ _ => rfl)) pe_int (nomark _)) (pw_and1 (pt_cmpR op_gt (pv 7) pe_int (nomark _)))).pt (pss_one (ps_ret (pe_tupA (pa_cons (pe_fn F_law_over (hr.mono (by decide)) (by rfl) (pa_cons (pv 0) (pa_cons (pv 5) (pa_cons (pv 2) (pa_cons (pv 4) pa_nil))))) (pa_cons (pv 6) pa_nil))))) pss_nil) hp6,fun tn H2 b2 p2 => ?_⟩
      have f2 := fu.t (b2.t pt)
      have X2 := SqT.of (K := K) f2.dx.at_
      have Y2 := SqT.of (K := K) f2.dy.at_
      refine ⟨_,rfl,u.y,_,_,_,rfl,rfl,Y2,rfl,rfl,_,rfl,?_⟩
      rw [di]
      refine ite3 (fun h1 => ?_) (fun h1 => ?_)
      · have h1 : u.d = 1 := dec_t h1
        refine ⟨_,rfl,_,_,rfl,rfl,_,rfl,ite3 (fun c3 => ?_) (fun c3 => ?_)⟩
        · refine ⟨_,rfl,_,rfl,_,rfl,_,rfl,p,u.x,_,_,n,_,_,rfl,p2,by omega,⟨hn0,hn1⟩,f2.dx,fun z t b H3 d3 sh hp b3 p3 => ?_⟩
          refine ⟨_,rfl,sz (by simp),fun pp H4 s4 f4 _ => ?_⟩
          exact q ⟨pp,z,u.y,t,b,u.c,u.d⟩ H4 ⟨f4,d3.t' s4.t,(f2.dy.t' (b3.t p2)).t' s4.t,fun _ => .inr h1⟩ (may_keepY h1 rfl rfl sh hp) (b2.trans (b3.trans (But.of s4))) ((p3.same s4).mono (by omega))
        · exact rd6 tn H2 b2 p2
      · exact rd6 tn H2 b2 p2
    obtain ⟨p5,hp5,rd5⟩ := R5
    have R4 : ∃ p4,PSs (cxOf CX0 P w K mg base ["pot","pair","n","m","way","x","y","turn"] "_law_next" (defScope (top 94)) f cdv A outer s H E).nox ((defBody (top 94)).drop 4) p4 ∧ ∀ (tn : Int) (H2 : Hp),But p H H2 → Pot H2 p (k + 1) → p4 { nx := fun _ H' => Q .non H',rt := Q } [some (.ref p),some (.ref u.p),some (.int n),some (.int m),some (.str wy),some (.ref u.x),some (.ref u.y),some (.int tn)] H2 := by
      refine ⟨_,pss_cons (ps_if (pw_and (pt_cmpR op_eq (pe_ix ix_tup (pv 5) pe_int (fun _ _ => rfl)) pe_int (nomark _)) (pw_and (pt_cmpR op_eq (pv 7) pe_int (nomark _)) (pw_and1 (pt_cmpR op_eq (pv 4) pe_str (nomark _))))).pt (pss_one (ps_ret (pe_tupA (pa_cons (pv 5) (pa_cons (pe_fn F_law_over (hr.mono (by decide)) (by rfl) (pa_cons (pv 0) (pa_cons (pv 6) (pa_cons (pv 3) (pa_cons (pv 4) pa_nil))))) pa_nil))))) pss_nil) hp5,fun tn H2 b2 p2 => ?_⟩
      have f2 := fu.t (b2.t pt)
      have X2 := SqT.of (K := K) f2.dx.at_
      have Y2 := SqT.of (K := K) f2.dy.at_
      refine ⟨_,rfl,u.x,_,_,_,rfl,rfl,X2,rfl,rfl,_,rfl,?_⟩
      rw [di]
      refine ite3 (fun h1 => ?_) (fun h1 => ?_)
      · have h1 : u.b = 1 := dec_t h1
        refine ⟨_,rfl,rfl,_,rfl,ite3 (fun c2 => ?_) (fun c2 => ?_)⟩
        · refine ⟨_,rfl,rfl,_,rfl,ite3 (fun c3 => ?_) (fun c3 => ?_)⟩
          · refine ⟨_,rfl,_,rfl,_,rfl,_,rfl,_,rfl,p,u.y,_,_,m,_,_,rfl,p2,by omega,⟨hm0,hm1⟩,f2.dy,fun z t b H3 d3 sh hp b3 p3 => ?_⟩
            refine ⟨sz (by simp),fun pp H4 s4 f4 _ => ?_⟩
            exact q ⟨pp,u.x,z,u.a,u.b,t,b⟩ H4 ⟨f4,(f2.dx.t' (b3.t p2)).t' s4.t,d3.t' s4.t,fun _ => .inl h1⟩ (may_keepX h1 rfl rfl sh (fun z => absurd (z.symm.trans (show wy = wFree from dec_t (ds c3))) (by decide))) (b2.trans (b3.trans (But.of s4))) ((p3.same s4).mono (by omega))
          · exact rd5 tn H2 b2 p2
        · exact rd5 tn H2 b2 p2
      · exact rd5 tn H2 b2 p2
    obtain ⟨p4,hp4,rd4⟩ := R4
    have R3 : ∃ p3,PSs (cxOf CX0 P w K mg base ["pot","pair","n","m","way","x","y","turn"] "_law_next" (defScope (top 94)) f cdv A outer s H E).nox ((defBody (top 94)).drop 3) p3 ∧ ∀ (tn : Int) (H2 : Hp),But p H H2 → Pot H2 p (k + 1) → p3 { nx := fun _ H' => Q .non H',rt := Q } [some (.ref p),some (.ref u.p),some (.int n),some (.int m),some (.str wy),some (.ref u.x),some (.ref u.y),some (.int tn)] H2 := by
      refine ⟨_,pss_cons (ps_if (pw_and (pt_cmpR op_eq (pe_ix ix_tup (pv 5) pe_int (fun _ _ => rfl)) pe_int (nomark _)) (pw_and1 (pw_or (pt_cmpR op_eq (pv 7) pe_int (nomark _)) (pw_or1 (pt_cmpR op_gt (pe_ix ix_tup (pv 6) pe_int (fun _ _ => rfl)) pe_int (nomark _)))).pt)).pt (pss_one (ps_ret (pe_tupA (pa_cons (pv 5) (pa_cons (pe_fn F_law_down (hr.mono (by decide)) (by rfl) (pa_cons (pv 0) (pa_cons (pv 6) (pa_cons (pv 4) pa_nil)))) pa_nil))))) pss_nil) hp4,fun tn H2 b2 p2 => ?_⟩
      have f2 := fu.t (b2.t pt)
      have X2 := SqT.of (K := K) f2.dx.at_
      have Y2 := SqT.of (K := K) f2.dy.at_
      refine ⟨_,rfl,u.x,_,_,_,rfl,rfl,X2,rfl,rfl,_,rfl,?_⟩
      rw [di]
      refine ite3 (fun h1 => ?_) (fun h1 => ?_)
      · have h1 : u.b = 1 := dec_t h1
        refine ⟨_,rfl,rfl,_,rfl,ite3 (fun c2 => ?_) (fun c2 => ?_)⟩
        · refine ⟨_,rfl,_,rfl,_,rfl,_,rfl,p,u.y,_,_,m,_,_,rfl,p2,by omega,⟨hm0,hm1⟩,f2.dy,fun z t b H3 d3 sh hp b3 p3 => ?_⟩
          refine ⟨sz (by simp),fun pp H4 s4 f4 _ => ?_⟩
          exact q ⟨pp,u.x,z,u.a,u.b,t,b⟩ H4 ⟨f4,(f2.dx.t' (b3.t p2)).t' s4.t,d3.t' s4.t,fun _ => .inl h1⟩ (may_keepX h1 rfl rfl sh hp) (b2.trans (b3.trans (But.of s4))) ((p3.same s4).mono (by omega))
        · refine ⟨_,rfl,u.y,_,_,_,rfl,rfl,Y2,rfl,_,_,rfl,rfl,_,rfl,ite3 (fun c3 => ?_) (fun c3 => ?_)⟩
          · refine ⟨_,rfl,_,rfl,_,rfl,_,rfl,p,u.y,_,_,m,_,_,rfl,p2,by omega,⟨hm0,hm1⟩,f2.dy,fun z t b H3 d3 sh hp b3 p3 => ?_⟩
            refine ⟨sz (by simp),fun pp H4 s4 f4 _ => ?_⟩
            exact q ⟨pp,u.x,z,u.a,u.b,t,b⟩ H4 ⟨f4,(f2.dx.t' (b3.t p2)).t' s4.t,d3.t' s4.t,fun _ => .inl h1⟩ (may_keepX h1 rfl rfl sh hp) (b2.trans (b3.trans (But.of s4))) ((p3.same s4).mono (by omega))
          · exact rd4 tn H2 b2 p2
      · exact rd4 tn H2 b2 p2
    obtain ⟨p3,hp3,rd3⟩ := R3
    refine ⟨_,(pss_cons (ps_asg (pv 1) (pg_tup rfl (pgs_cons (pg_name (i := 5) S_law_next.nd rfl (Or.inl rfl)) (pgs_cons (pg_name (i := 6) S_law_next.nd rfl (Or.inl rfl)) pgs_nil)))) (pss_cons (ps_set (i := 7) S_law_next.nd rfl (Or.inl rfl) (pe_fn F_law_take (hr.mono (by decide)) (by rfl) (pa_cons (pv 0) (pa_cons pe_int pa_nil)))) (pss_cons (ps_if (pw_and (pt_cmpR op_ne (pv 4) pe_str (nomark _)) (pw_and1 (pw_or (pt_cmpR op_eq (pv 7) pe_int (nomark _)) (pw_or1 (pw_and (pt_cmpR op_gt (pe_ix ix_tup (pv 5) pe_int (fun _ _ => rfl)) pe_int (nomark _)) (pw_and1 (pt_cmpR op_gt (pe_ix ix_tup (pv 6) pe_int (fun _ _ => rfl)) pe_int (nomark _)))).pt)).pt)).pt (pss_one (ps_ret (pe_tupA (pa_cons (pe_fn F_law_lesser (hr.mono (by decide)) (by rfl) (pa_cons (pv 5) (pa_cons (pe_fn F_law_any (hr.mono (by decide)) (by rfl) (pa_cons (pv 0) (pa_cons (pv 2) (pa_cons (pv 4) pa_nil)))) pa_nil))) (pa_cons (pe_fn F_law_greater (hr.mono (by decide)) (by rfl) (pa_cons (pv 6) (pa_cons (pe_fn F_law_any (hr.mono (by decide)) (by rfl) (pa_cons (pv 0) (pa_cons (pv 3) (pa_cons (pv 4) pa_nil)))) pa_nil))) pa_nil))))) pss_nil) hp3))),?_⟩
    refine ⟨_,rfl,u.p,_,rfl,SqT.of fu.e,rfl,_,_,rfl,_,_,rfl,rfl,?_⟩
    refine ⟨_,rfl,p,_,_,rfl,pt,by omega,⟨by decide,by decide⟩,fun tn H2 tn0 tn1 b2 p2 => ?_⟩
    have f2 := fu.t (b2.t pt)
    have X2 := SqT.of (K := K) f2.dx.at_
    have Y2 := SqT.of (K := K) f2.dy.at_
    refine ⟨_,rfl,rfl,_,rfl,ite3 (fun c1 => ?_) (fun c1 => ?_)⟩
    · have hf : ¬ wy = wFree := dec_f (ds (show decide (V.str wy = V.str (Str.ofString "free")) = false by simpa only [Bool.not_eq_true'] using c1))
      refine ⟨_,rfl,rfl,_,rfl,ite3 (fun c2 => ?_) (fun c2 => ?_)⟩
      · refine ⟨_,rfl,_,rfl,_,rfl,_,rfl,p,n,_,_,rfl,p2,by omega,⟨hn0,hn1⟩,fun z1 t1 b1 H3 d1 b3 p3 => ?_⟩
        have f3 := f2.t (b3.t p2)
        refine ⟨u.x,z1,u.a,u.b,t1,b1,rfl,f3.dx.at_,d1.at_,⟨bits_le f3.dx.bt (by decide),bits_le f3.dx.bb (by decide),bits_le d1.bt (by decide),bits_le d1.bb (by decide)⟩,?_⟩
        obtain ⟨zx,tx,bx,ez,dxx,hx⟩ : ∃ (zx : Addr) (tx bx : Int),(if ltB t1 b1 u.a u.b = true then z1 else u.x) = zx ∧ Dp H3 zx tx bx n wy ∧ ¬ u.a * bx < tx * u.b := by
          split
          · rename_i hh
            exact ⟨z1,t1,b1,rfl,d1,by have := dec_t hh; omega⟩
          · exact ⟨u.x,u.a,u.b,rfl,f3.dx,by omega⟩
        dsimp only
        rw [ez]
        refine ⟨_,rfl,_,rfl,_,rfl,_,rfl,p,m,_,_,rfl,p3,by omega,⟨hm0,hm1⟩,fun z2 t2 b2' H4 d2 b4 p4 => ?_⟩
        have f4 := f3.t (b4.t p3)
        refine ⟨u.y,z2,u.c,u.d,t2,b2',rfl,f4.dy.at_,d2.at_,⟨bits_le f4.dy.bt (by decide),bits_le f4.dy.bb (by decide),bits_le d2.bt (by decide),bits_le d2.bb (by decide)⟩,?_⟩
        obtain ⟨zy,ty,by_,ey,dyy,hy⟩ : ∃ (zy : Addr) (ty by_ : Int),(if ltB u.c u.d t2 b2' = true then z2 else u.y) = zy ∧ Dp H4 zy ty by_ m wy ∧ ¬ ty * u.d < u.c * by_ := by
          split
          · rename_i hh
            exact ⟨z2,t2,b2',rfl,d2,by have := dec_t hh; omega⟩
          · exact ⟨u.y,u.c,u.d,rfl,f4.dy,by omega⟩
        dsimp only
        rw [ey]
        refine ⟨sz (by simp),fun pp H5 s5 f5 _ => ?_⟩
        exact q ⟨pp,zx,zy,tx,bx,ty,by_⟩ H5 ⟨f5,(dxx.t' (b4.t p3)).t' s5.t,dyy.t' s5.t,fun z => absurd z hf⟩ (may_back hf hx hy fun z => ⟨fu.dx.hop z,fu.dy.hop z,dxx.hop z,dyy.hop z⟩) (b2.trans (b3.trans (b4.trans (But.of s5)))) ((p4.same s5).mono (by omega))
      refine ⟨_,rfl,u.x,_,_,_,rfl,rfl,X2,rfl,_,_,rfl,rfl,_,rfl,ite3 (fun c3 => ?_) (fun c3 => ?_)⟩
      · refine ⟨_,rfl,u.y,_,_,_,rfl,rfl,Y2,rfl,_,_,rfl,rfl,_,rfl,ite3 (fun c4 => ?_) (fun c4 => ?_)⟩
        · refine ⟨_,rfl,_,rfl,_,rfl,_,rfl,p,n,_,_,rfl,p2,by omega,⟨hn0,hn1⟩,fun z1 t1 b1 H3 d1 b3 p3 => ?_⟩
          have f3 := f2.t (b3.t p2)
          refine ⟨u.x,z1,u.a,u.b,t1,b1,rfl,f3.dx.at_,d1.at_,⟨bits_le f3.dx.bt (by decide),bits_le f3.dx.bb (by decide),bits_le d1.bt (by decide),bits_le d1.bb (by decide)⟩,?_⟩
          obtain ⟨zx,tx,bx,ez,dxx,hx⟩ : ∃ (zx : Addr) (tx bx : Int),(if ltB t1 b1 u.a u.b = true then z1 else u.x) = zx ∧ Dp H3 zx tx bx n wy ∧ ¬ u.a * bx < tx * u.b := by
            split
            · rename_i hh
              exact ⟨z1,t1,b1,rfl,d1,by have := dec_t hh; omega⟩
            · exact ⟨u.x,u.a,u.b,rfl,f3.dx,by omega⟩
          dsimp only
          rw [ez]
          refine ⟨_,rfl,_,rfl,_,rfl,_,rfl,p,m,_,_,rfl,p3,by omega,⟨hm0,hm1⟩,fun z2 t2 b2' H4 d2 b4 p4 => ?_⟩
          have f4 := f3.t (b4.t p3)
          refine ⟨u.y,z2,u.c,u.d,t2,b2',rfl,f4.dy.at_,d2.at_,⟨bits_le f4.dy.bt (by decide),bits_le f4.dy.bb (by decide),bits_le d2.bt (by decide),bits_le d2.bb (by decide)⟩,?_⟩
          obtain ⟨zy,ty,by_,ey,dyy,hy⟩ : ∃ (zy : Addr) (ty by_ : Int),(if ltB u.c u.d t2 b2' = true then z2 else u.y) = zy ∧ Dp H4 zy ty by_ m wy ∧ ¬ ty * u.d < u.c * by_ := by
            split
            · rename_i hh
              exact ⟨z2,t2,b2',rfl,d2,by have := dec_t hh; omega⟩
            · exact ⟨u.y,u.c,u.d,rfl,f4.dy,by omega⟩
          dsimp only
          rw [ey]
          refine ⟨sz (by simp),fun pp H5 s5 f5 _ => ?_⟩
          exact q ⟨pp,zx,zy,tx,bx,ty,by_⟩ H5 ⟨f5,(dxx.t' (b4.t p3)).t' s5.t,dyy.t' s5.t,fun z => absurd z hf⟩ (may_back hf hx hy fun z => ⟨fu.dx.hop z,fu.dy.hop z,dxx.hop z,dyy.hop z⟩) (b2.trans (b3.trans (b4.trans (But.of s5)))) ((p4.same s5).mono (by omega))
        · exact rd3 tn H2 b2 p2
      · exact rd3 tn H2 b2 p2
    · exact rd3 tn H2 b2 p2
theorem mr_i0 {f : Int → Int → V} : MR (rI0 f) := fun x y H Q Q' hq ⟨i,j,e1,e2,k⟩ => ⟨i,j,e1,e2,hq _ _ k⟩
theorem mr_ixT {K : PySem.W.Frag} : MR (rIxT K) := fun x y H Q Q' hq ⟨p,xs,i,v,e1,e2,h,a,k⟩ => ⟨p,xs,i,v,e1,e2,h,a,hq _ _ k⟩
structure FI (H : Hp) (n m : Int) (wy : Str) (ps : List Pr) (q : Pr) : Prop where
  all : ∀ r ∈ ps ++ [q],Fp H r n m wy
  st : fstepsB wy (ps ++ [q]) = true
theorem fsteps_join {w : Str} {v : Pr} {ys : List Pr} : ∀ xs : List Pr,fstepsB w (xs ++ [v]) = true → fstepsB w (v :: ys) = true → fstepsB w (xs ++ v :: ys) = true
  | [],_,h => h
  | [a],h,g => by
    have h' : (mayB w a v && fstepsB w [v]) = true := h
    rw [Bool.and_eq_true] at h'
    show (mayB w a v && fstepsB w (v :: ys)) = true
    rw [h'.1,g]
    rfl
  | a :: b :: r,h,g => by
    have h' : (mayB w a b && fstepsB w (b :: r ++ [v])) = true := h
    rw [Bool.and_eq_true] at h'
    show (mayB w a b && fstepsB w (b :: r ++ v :: ys)) = true
    rw [h'.1,fsteps_join (b :: r) h'.2 g]
    rfl
theorem FI.last {H : Hp} {n m : Int} {wy : Str} {ps : List Pr} {q : Pr} (F : FI H n m wy ps q) : Fp H q n m wy := F.all q (by simp)
theorem FI.t {H H' : Hp} {n m : Int} {wy : Str} {ps : List Pr} {q : Pr} (F : FI H n m wy ps q) (s : SameT H H') : FI H' n m wy ps q := ⟨fun r hr => (F.all r hr).t s,F.st⟩
theorem FI.step {H H' : Hp} {n m : Int} {wy : Str} {ps : List Pr} {q r : Pr} (F : FI H n m wy ps q) (s : SameT H H') (fr : Fp H' r n m wy) (h : mayB wy q r = true) : FI H' n m wy (ps ++ [q]) r := by
  refine ⟨fun z hz => ?_,?_⟩
  · rcases List.mem_append.mp hz with hz | hz
    · exact (F.all z hz).t s
    · rw [List.mem_singleton.mp hz]
      exact fr
  · rw [List.append_assoc]
    refine fsteps_join ps F.st ?_
    show (mayB wy q r && fstepsB wy [r]) = true
    rw [h]
    rfl
theorem FI.pairs {H : Hp} {l : Addr} {n m : Int} {wy : Str} {ps : List Pr} {q : Pr} (F : FI H n m wy ps q) (e : H l = some (.lst (prs (ps ++ [q])))) : PairsAt H l (ps ++ [q]) := ⟨e,fun r hr => (Dp.pr (F.all r hr).e (F.all r hr).dx (F.all r hr).dy).1⟩
theorem FI.join {H : Hp} {n m : Int} {wy : Str} {ps qs xs : List Pr} {q v : Pr} (F : FI H n m wy ps q) (G : FI H n m wy qs v) (e : q :: xs = qs ++ [v]) : FI H n m wy (ps ++ qs) v := by
  have h := F.st
  have g := G.st
  rw [← e] at g
  refine ⟨fun z hz => ?_,?_⟩
  · rw [List.append_assoc] at hz
    rcases List.mem_append.mp hz with hz | hz
    · exact F.all z (by simp [hz])
    · exact G.all z hz
  · rw [List.append_assoc,← e]
    exact fsteps_join ps h g
theorem Fp.self {H : Hp} {n m : Int} {wy : Str} {q : Pr} (f : Fp H q n m wy) : mayB wy q q = true := by
  have ub : (0 : Int) < q.b := f.dx.low.pos
  have ud : (0 : Int) < q.d := f.dy.low.pos
  have sX : shareB q.a q.b q.a q.b = true := share_of (k := q.a / q.b) ub ub (fl_le ub) (by have := fl_lt (a := q.a) ub; omega) (fl_le ub) (by have := fl_lt (a := q.a) ub; omega)
  have sY : shareB q.c q.d q.c q.d = true := share_of (k := q.c / q.d) ud ud (fl_le ud) (by have := fl_lt (a := q.c) ud; omega) (fl_le ud) (by have := fl_lt (a := q.c) ud; omega)
  by_cases hf : wy = wFree
  · have nh : ¬ wy = wHops := fun z => absurd (z.symm.trans hf) (by decide)
    rcases f.fr hf with h1 | h1
    · exact may_keepX h1 rfl rfl sY (fun z => absurd z nh)
    · exact may_keepY h1 rfl rfl sX (fun z => absurd z nh)
  · exact may_back hf (by omega) (by omega) fun z => ⟨f.dx.hop z,f.dy.hop z,f.dx.hop z,f.dy.hop z⟩
structure GoodF (n m : Int) (w : Str) (ps : List Pr) : Prop where
  fence : fenceB n m w ps = true
  self : ∀ q ∈ ps,mayB w q q = true
theorem fenceB_of {n m : Int} {w : Str} {L : List Pr} : fenceB n m w L = true ↔ ∃ f l,L.head? = some f ∧ L.getLast? = some l ∧ L.all (inB n m) = true ∧ (if w = wHops then L.all wholeB else true) = true ∧ fendsB n m w f l = true ∧ fstepsB w L = true := by
  cases L with
  | nil => simp [fenceB]
  | cons f r =>
    rw [fenceB_cons,Bool.and_eq_true,Bool.and_eq_true,Bool.and_eq_true]
    constructor
    · rintro ⟨h1,h2,h3,h4⟩
      exact ⟨f,_,rfl,List.getLast?_eq_some_getLast (by simp),h1,h2,h3,h4⟩
    · rintro ⟨f',l,e1,e2,h1,h2,h3,h4⟩
      cases e1
      rw [List.getLast?_eq_some_getLast (by simp)] at e2
      cases e2
      exact ⟨h1,h2,h3,h4⟩
theorem FI.good {H : Hp} {n m : Int} {wy : Str} {qs : List Pr} {v : Pr} (F : FI H n m wy qs v) (h1 : ∀ f,(qs ++ [v]).head? = some f → e1B m wy f = true) (h2 : e2B n wy v = true) : GoodF n m wy (qs ++ [v]) := by
  refine ⟨fenceB_of.mpr ?_,fun q hq => (F.all q hq).self⟩
  have hi : (qs ++ [v]).all (inB n m) = true := List.all_eq_true.mpr fun q hq => (Dp.pr (F.all q hq).e (F.all q hq).dx (F.all q hq).dy).2.1
  have hw : (if wy = wHops then (qs ++ [v]).all wholeB else true) = true := by
    by_cases z : wy = wHops
    · rw [if_pos z]
      refine List.all_eq_true.mpr fun q hq => ?_
      unfold wholeB
      rw [(F.all q hq).dx.hop z,(F.all q hq).dy.hop z]
      rfl
    · rw [if_neg z]
  cases ef : (qs ++ [v]).head? with
  | none => simp at ef
  | some f =>
    refine ⟨f,v,rfl,by simp,hi,hw,?_,F.st⟩
    rw [fends_eq,h1 f ef,h2]
    rfl
theorem at_snoc (qs : List Pr) (v : Pr) : atI (prs (qs ++ [v])) (-1) = some (.ref v.p) := by
  cases qs with
  | nil => exact at_lastP v []
  | cons f r =>
    have h := at_lastP f (r ++ [v])
    have e : (f :: (r ++ [v])).getLast (List.cons_ne_nil _ _) = v := getLast_snoc (ps := f :: r) _
    rw [e] at h
    exact h
def muD (H : Hp) (z : V) : Nat := match z with
  | .ref p => match H p with
    | some (.tup [.int t,.int b]) => ((t - 1) / b + 1).toNat
    | _ => 0
  | _ => 0
theorem muD_of {H : Hp} {z : Addr} {t b : Int} (e : H z = some (.tup [.int t,.int b])) : muD H (.ref z) = ((t - 1) / b + 1).toNat := by simp only [muD,e]
def spEnded : Sp := fun vs H Q _ => ∃ (u : Pr) (n m : Int) (wy : Str),vs = [.ref u.p,.int n,.str wy] ∧ (0 ≤ n ∧ n ≤ 50) ∧ (0 ≤ m ∧ m ≤ 20) ∧ Fp H u n m wy ∧ ∀ (l : Addr) (qs ps : List Pr) (v : Pr) (H' : Hp),u :: ps = qs ++ [v] → H' l = some (.lst (prs ps)) → FI H' n m wy qs v → v.c = 0 ∧ v.d = 1 → ps.length ≤ 30 → H l = none → Same H H' → Q (.ref l) H'
def spDFence : Sp := fun vs H Q _ => ∃ (p : Addr) (n m k : Int) (w : Str),vs = [.ref p,.int n,.int m,.str w] ∧ Pot H p k ∧ k ≤ 400000 ∧ (0 ≤ n ∧ n ≤ 20) ∧ (0 ≤ m ∧ m ≤ 20) ∧ ∀ (l : Addr) (ps : List Pr) (H' : Hp),PairsAt H' l ps → GoodF n m w ps → ps.length ≤ 60 → H l = none → But p H H' → Pot H' p (k + 500) → Q (.ref l) H'
theorem S_law_ended : FnScope ["pair","n","way","x","y","more"] ["pair","n","way"] (defScope (top 95)) := ⟨rfl,rfl,rfl,by decide +kernel,rfl,by decide +kernel,by decide +kernel⟩
theorem fn_law_ended (D_law_ended : Df K mg "_law_ended" (top 95)) (T : Txt mg) : Fn P w K mg base "_law_ended" ["pair","n","way"] 2 spEnded := by
  refine D_law_ended.fn S_law_ended (fun _ _ _ _ _ _ us hl => by obtain ⟨_,_,_,rfl⟩ := len3 hl; rfl) (fun vs H Q E h => ?_) (fun f cdv A outer s H vs Q E hr h => ?_)
  · obtain ⟨u,n,m,wy,rfl,_⟩ := h
    rfl
  · obtain ⟨u,n,m,wy,rfl,⟨hn0,hn1⟩,⟨hm0,hm1⟩,fu,q⟩ := h
    have R : ∃ u',PSs (cxOf CX0 P w K mg base ["pair","n","way","x","y","more"] "_law_ended" (defScope (top 95)) f cdv A outer s H E).nox ((defBody (top 95)).drop 3) u' ∧ ∀ (H3 : Hp) (l : Addr) (v : Pr) (qs ps : List Pr),Same H H3 → H l = none → H3 l = some (.lst (prs ps)) → FI H3 n m wy qs v → u :: ps = qs ++ [v] → v.b = 1 → ps.length ≤ 1 → u' { nx := fun _ H' => Q .non H',rt := Q } [some (.ref u.p),some (.int n),some (.str wy),some (.ref v.x),some (.ref v.y),some (.ref l)] H3 := by
      refine ⟨_,(pss_cons (ps_while PassesOwn.never (pt_cmpR op_gt (pe_ix ix_tup (pv 4) pe_int (fun _ _ => rfl)) pe_int (nomark _)) (pss_cons (ps_set (i := 4) S_law_ended.nd rfl (Or.inl rfl) (pe_tupA (pa_cons (pe_op op_fdivP (pe_op op_sub (pe_ix ix_tup (pv 4) pe_int (fun _ _ => rfl)) pe_int) (pe_ix ix_tup (pv 4) pe_int (fun _ _ => rfl))) (pa_cons pe_int pa_nil)))) (pss_one (ps_expr (pe_bm PySem.F.plainAttrs_list PySem.F.slot_list_append PySem.F.type_list_append mt_appendA (pv 5) (pa_cons (pe_tupA (pa_cons (pv 3) (pa_cons (pv 4) pa_nil))) pa_nil)))))) (pss_one (ps_ret (pv 5)))),fun H3 l v qs ps s3 nl el fi hu hb hl => ?_⟩
      have cap : ∀ {H4 : Hp} {v : Pr},Fp H4 v n m wy → (v.c - 1) / v.d + 1 ≤ m ∧ (0 < v.c → 0 ≤ (v.c - 1) / v.d) := fun {H4 v} f => by
        have hd : (0 : Int) < v.d := f.dy.low.pos
        have h1 := f.dy.n1
        have h2 : (v.c - 1) / v.d < m := Int.ediv_lt_of_lt_mul hd (by omega)
        exact ⟨by omega,fun h => Int.ediv_nonneg (by omega) (by omega)⟩
      refine while_by (fun σ H4 => ∃ (v : Pr) (qs ps : List Pr),σ = [some (.ref u.p),some (.int n),some (.str wy),some (.ref v.x),some (.ref v.y),some (.ref l)] ∧ Same H H4 ∧ H4 l = some (.lst (prs ps)) ∧ FI H4 n m wy qs v ∧ u :: ps = qs ++ [v] ∧ v.b = 1 ∧ (ps.length : Int) + ((v.c - 1) / v.d + 1) ≤ 21)
        (fun σ H4 => match σ with | [_,_,_,_,some z,_] => muD H4 z | _ => 0)
        ⟨v,qs,ps,rfl,s3,el,fi,hu,hb,by have := (cap fi.last).1; omega⟩ ?_ ?_
      · rintro σ H4 ⟨v,qs,ps,rfl,s4,el,fi,hu,hb,hl⟩
        have fv := fi.last
        have hd : (0 : Int) < v.d := fv.dy.low.pos
        have Y := SqT.of (K := K) fv.dy.at_
        refine ⟨_,rfl,v.y,_,_,_,rfl,rfl,Y,rfl,_,_,rfl,rfl,_,rfl,ite3 (fun c1 => ?_) (fun c1 => ?_)⟩
        · have c1 : 0 < v.c := dec_t c1
          have k0 := (cap fv).2 c1
          have k1 := (cap fv).1
          have j1 := fl_le (a := v.c - 1) hd
          have j2 := fl_lt (a := v.c - 1) hd
          refine ⟨_,rfl,v.y,_,_,_,rfl,rfl,Y,rfl,_,_,rfl,rfl,_,rfl,v.y,_,_,_,rfl,rfl,Y,rfl,_,_,rfl,rfl,⟨hd,bits_le fv.dy.bb (by decide)⟩,sz (by simp),fun zy H5 s5 f5 n5 => ?_⟩
          refine ⟨_,rfl,.inl ⟨rfl,_,SqL.of (s5 _ _ el)⟩,_,rfl,_,rfl,sz (by simp),fun pp H6 s6 f6 n6 => ?_⟩
          refine ⟨l,_,_,rfl,rfl,s6 _ _ (s5 _ _ el),small1000 (by rw [prs_len]; omega),fun H7 u7 => ?_⟩
          have f5 : H5 zy = some (.tup [.int ((v.c - 1) / v.d),.int 1]) := f5
          generalize ek : (v.c - 1) / v.d = kk at *
          have s46 : SameT H4 H7 := fun a xs e => u7.t _ _ (s6 _ _ (s5 _ _ e))
          have dy7 : Dp H7 zy kk 1 m wy := ⟨u7.t _ _ (s6 _ _ f5),⟨by decide,Int.gcd_one⟩,k0,by omega,bits_le (bits_small (by omega) (by omega)) (by decide),by decide,fun _ => rfl⟩
          have f7 : Fp H7 ⟨pp,v.x,zy,v.a,v.b,kk,1⟩ n m wy := ⟨u7.t _ _ f6,fv.dx.t' s46,dy7,fun _ => .inl hb⟩
          have j3 : v.c ≤ (kk + 1) * v.d := by omega
          have sh : shareB v.c v.d kk 1 = true := share_of (k := kk) hd (by decide) (by omega) j3 (by omega) (by omega)
          have hm : mayB wy v ⟨pp,v.x,zy,v.a,v.b,kk,1⟩ = true := may_keepX hb rfl rfl sh (fun z => by
            have e := fv.dy.hop z
            rw [e,Int.ediv_one] at ek
            show v.c - kk ≤ 1
            omega)
          refine ⟨⟨⟨pp,v.x,zy,v.a,v.b,kk,1⟩,qs ++ [v],ps ++ [⟨pp,v.x,zy,v.a,v.b,kk,1⟩],rfl,u7.same (s4.trans (s5.trans s6)) nl,by rw [u7.now]; unfold prs; rw [List.map_append]; rfl,fi.step s46 f7 hm,?_,hb,?_⟩,?_⟩
          · rw [← hu]; rfl
          · rw [List.length_append]
            simp only [List.length_cons,List.length_nil]
            show ((ps.length + 1 : Nat) : Int) + ((kk - 1) / 1 + 1) ≤ 21
            rw [Int.ediv_one]
            omega
          · show muD H7 (.ref zy) < muD H4 (.ref v.y)
            rw [muD_of f7.dy.at_,muD_of fv.dy.at_,ek]
            show ((kk - 1) / 1 + 1).toNat < _
            rw [Int.ediv_one]
            omega
        · have c1 : ¬ 0 < v.c := dec_f c1
          have c0 : v.c = 0 := by have := fv.dy.n0; omega
          have d1 : v.d = 1 := by
            have h := fv.dy.low.one
            rw [c0,Int.gcd_zero_left] at h
            omega
          exact ⟨_,rfl,q l qs ps v H4 hu el fi ⟨c0,d1⟩ (by have := (cap fv).1; rw [c0,d1] at hl; omega) nl s4⟩
      · exact mt_test (me_op mr_i0 (me_op mr_ixT me_var me_c) me_c)
    obtain ⟨u',hu',fin⟩ := R
    refine ⟨_,(pss_cons (ps_asg (pv 0) (pg_tup rfl (pgs_cons (pg_name (i := 3) S_law_ended.nd rfl (Or.inl rfl)) (pgs_cons (pg_name (i := 4) S_law_ended.nd rfl (Or.inl rfl)) pgs_nil)))) (pss_cons (ps_set (i := 5) S_law_ended.nd rfl (Or.inl rfl) (pe_lstA pa_nil)) (pss_cons (ps_if (pt_cmpR op_gt (pe_ix ix_tup (pv 3) pe_int (fun _ _ => rfl)) pe_int (nomark _)) (@pss_cons _ _ _ _ _ (@ps_set _ _ 3 _ _ _ _ S_law_ended.nd rfl (Or.inl rfl) (@pe_ix _ _ _ _ _ _ _ ix_list (@pe_lstA _ _ _ _ (@pa_cons _ _ _ _ _ (@pe_tupA _ _ _ _ _ (@pa_cons _ _ _ _ _ (pe_op op_fdivP (pe_ix ix_tup (pv 3) pe_int (fun _ _ => rfl)) (pe_ix ix_tup (pv 3) pe_int (fun _ _ => rfl))) (@pa_cons _ _ _ _ _ pe_int pa_nil (by rfl)) (by rfl))) (@pa_cons _ _ _ _ _ (@pe_tupA _ _ _ _ _ (@pa_cons _ _ _ _ _ (pe_op op_add (pe_op op_fdivP (pe_ix ix_tup (pv 3) pe_int (fun _ _ => rfl)) (pe_ix ix_tup (pv 3) pe_int (fun _ _ => rfl))) pe_int) (@pa_cons _ _ _ _ _ pe_int pa_nil (by rfl)) (by rfl))) pa_nil (by rfl)) (by rfl))) (pe_callTy call_int1 (by rfl) T.z_int bt_int (pa_cons (pe_cmpR op_eq (pv 2) pe_str (nomark _)) pa_nil)) (fun _ _ => rfl)) (by rfl) (by first | exact .inl rfl | exact .inr rfl | assumption)) (pss_one (ps_expr (pe_bm PySem.F.plainAttrs_list PySem.F.slot_list_append PySem.F.type_list_append mt_appendA (pv 5) (pa_cons (pe_tupA (pa_cons (pv 3) (pa_cons (pv 4) pa_nil))) pa_nil))))) pss_nil) hu'))),?_⟩
    have ub : (0 : Int) < u.b := fu.dx.low.pos
    have ud : (0 : Int) < u.d := fu.dy.low.pos
    refine ⟨_,rfl,u.p,_,rfl,SqT.of fu.e,rfl,_,_,rfl,_,_,rfl,rfl,?_⟩
    refine ⟨sz (by simp),fun l H1 s1 f1 n1 => ?_⟩
    have fu1 := fu.t s1.t
    have X1 := SqT.of (K := K) fu1.dx.at_
    refine ⟨_,rfl,u.x,_,_,_,rfl,rfl,X1,rfl,_,_,rfl,rfl,_,rfl,ite3 (fun c1 => ?_) (fun c1 => ?_)⟩
    · have c1 : 1 < u.b := dec_t c1
      have nb : u.b ≠ 1 := by omega
      have nh : ¬ wy = wHops := fun z => nb (fu.dx.hop z)
      have bb : bits u.b ≤ 8000 := bits_le fu.dx.bb (by decide)
      have j1 := fl_le (a := u.a) ub
      have j2 := fl_lt (a := u.a) ub
      have k0 := fl_nn ub fu.dx.n0
      have k1 := fl_le_n ub fu.dx.n1
      have k2 : u.a / u.b < n := by
        by_cases c : u.a / u.b = n
        · exact absurd (fl_full fu.dx.low fu.dx.n1 c).2 nb
        · omega
      have go : ∀ (H5 : Hp) (z : Addr) (t : Int),Same H1 H5 → H5 z = some (.tup [.int t,.int 1]) → 0 ≤ t → t ≤ n → (∀ pp,mayB wy u ⟨pp,z,u.y,t,1,u.c,u.d⟩ = true) → (tSeq (tDrop (tBM K "list" rAppendA (tVar 5) (tCons (tTupA (tCons (tVar 3) (tCons (tVar 4) tNil))) tNil))) u') { nx := fun _ H' => Q .non H',rt := Q } [some (.ref u.p),some (.int n),some (.str wy),some (.ref z),some (.ref u.y),some (.ref l)] H5 := by
        intro H5 z t s5 e5 t0 t1 hm
        refine ⟨_,rfl,.inl ⟨rfl,_,SqL.of (s5 _ _ f1)⟩,_,rfl,_,rfl,sz (by simp),fun pp H6 s6 f6 n6 => ?_⟩
        refine ⟨l,_,_,rfl,rfl,s6 _ _ (s5 _ _ f1),small1000 (by simp),fun H7 u7 => ?_⟩
        have s17 : SameT H1 H7 := fun a xs e => u7.t _ _ (s6 _ _ (s5 _ _ e))
        have fu7 := fu1.t s17
        have dx7 : Dp H7 z t 1 n wy := ⟨u7.t _ _ (s6 _ _ e5),⟨by decide,Int.gcd_one⟩,t0,by omega,bits_le (bits_small (by omega) (by omega)) (by decide),by decide,fun _ => rfl⟩
        have f7 : Fp H7 ⟨pp,z,u.y,t,1,u.c,u.d⟩ n m wy := ⟨u7.t _ _ f6,dx7,fu7.dy,fun _ => .inl rfl⟩
        have fi : FI H7 n m wy [] u := ⟨fun r hr => by rw [List.mem_singleton.mp hr]; exact fu7,rfl⟩
        exact fin H7 l ⟨pp,z,u.y,t,1,u.c,u.d⟩ [u] [⟨pp,z,u.y,t,1,u.c,u.d⟩] (u7.same (s1.trans (s5.trans s6)) n1) n1 (by rw [u7.now]; rfl) (fi.step (fun _ _ e => e) f7 (hm pp)) rfl rfl (by simp)
      refine ⟨_,rfl,u.x,_,_,_,rfl,rfl,X1,rfl,_,rfl,u.x,_,_,_,rfl,rfl,X1,rfl,_,_,rfl,rfl,⟨ub,bb⟩,sz (by simp),fun t1 H2 s2 f2 n2 => ?_⟩
      have X2 := SqT.of (K := K) (s2 _ _ fu1.dx.at_)
      refine ⟨_,rfl,u.x,_,_,_,rfl,rfl,X2,rfl,_,rfl,u.x,_,_,_,rfl,rfl,X2,rfl,_,_,rfl,rfl,⟨ub,bb⟩,_,_,rfl,rfl,sz (by simp),fun t2 H3 s3 f3 n3 => ?_⟩
      refine ⟨sz (by simp),fun lm H4 s4 f4 n4 => ?_⟩
      refine ⟨_,rfl,rfl,.inr ⟨_,rfl,?_⟩⟩
      have S4 : Same H1 H4 := s2.trans (s3.trans s4)
      by_cases hf : wy = wFree
      · have ed : decide (V.str wy = V.str (Str.ofString "free")) = true := decide_eq_true (by rw [hf]; rfl)
        rw [ed]
        refine ⟨lm,_,_,_,rfl,rfl,SqL.of f4,rfl,?_⟩
        have hd : u.d = 1 := by
          rcases fu.fr hf with h | h
          · exact absurd h nb
          · exact h
        have sh : shareB u.a u.b (u.a / u.b + 1) 1 = true := share_of (k := u.a / u.b) ub (by decide) j1 (by omega) (by omega) (by omega)
        exact go H4 t2 (u.a / u.b + 1) S4 (s4 _ _ f3) (by omega) (by omega) fun pp => may_keepY hd rfl rfl sh fun z => absurd z nh
      · have ed : decide (V.str wy = V.str (Str.ofString "free")) = false := decide_eq_false (fun z => hf (by cases z; rfl))
        rw [ed]
        refine ⟨lm,_,_,_,rfl,rfl,SqL.of f4,rfl,?_⟩
        exact go H4 t1 (u.a / u.b) S4 (s4 _ _ (s3 _ _ f2)) (by omega) (by omega) fun pp => may_back hf (by show ¬ u.a * 1 < u.a / u.b * u.b; omega) (by show ¬ u.c * u.d < u.c * u.d; omega) fun z => absurd z nh
    · have hb1 : u.b = 1 := by have := dec_f c1; omega
      exact fin H1 l u [] [] s1 n1 f1 ⟨fun r hr => by rw [List.mem_singleton.mp hr]; exact fu1,rfl⟩ rfl hb1 (by simp)
theorem S_law_drawn_fence : FnScope ["pot","n","m","way","pair","fence","turn"] ["pot","n","m","way"] (defScope (top 96)) := ⟨rfl,rfl,rfl,by decide +kernel,rfl,by decide +kernel,by decide +kernel⟩
theorem fn_law_drawn_fence (D_law_drawn_fence : Df K mg "_law_drawn_fence" (top 96)) (F_law_take : Fn P w K mg base "_law_take" ["pot","size"] 1 Dr.spTk) (F_law_any : Fn P w K mg base "_law_any" ["pot","last","way"] 4 spAny) (F_law_next : Fn P w K mg base "_law_next" ["pot","pair","n","m","way"] 5 spNext) (F_law_ended : Fn P w K mg base "_law_ended" ["pair","n","way"] 2 spEnded) (T : Txt mg) : Fn P w K mg base "_law_drawn_fence" ["pot","n","m","way"] 6 spDFence := by
  refine D_law_drawn_fence.fn S_law_drawn_fence (fun _ _ _ _ _ _ us hl => by obtain ⟨_,_,_,_,rfl⟩ := len4 hl; rfl) (fun vs H Q E h => ?_) (fun f cdv A outer s H vs Q E hr h => ?_)
  · obtain ⟨p,n,m,k,wy,rfl,_⟩ := h
    rfl
  · obtain ⟨p,n,m,k,wy,rfl,pt,hk,⟨hn0,hn1⟩,⟨hm0,hm1⟩,q⟩ := h
    have R : ∃ u',PSs (cxOf CX0 P w K mg base ["pot","n","m","way","pair","fence","turn"] "_law_drawn_fence" (defScope (top 96)) f cdv A outer s H E).nox ((defBody (top 96)).drop 2) u' ∧ ∀ (v : Pr) (H1 : Hp),Fp H1 v n m wy → e1B m wy v = true → But p H H1 → Pot H1 p (k + 45) → u' { nx := fun _ H' => Q .non H',rt := Q } [some (.ref p),some (.int n),some (.int m),some (.str wy),some (.ref v.p),none,none] H1 := by
      refine ⟨_,(pss_cons (ps_set (i := 5) S_law_drawn_fence.nd rfl (Or.inl rfl) (pe_lstA (pa_cons (pv 4) pa_nil))) (pss_cons (ps_for PassesOwn.never rfl (pi_range1 rfl T.z_range (pa_cons (pe_fn F_law_take (hr.mono (by decide)) (by rfl) (pa_cons (pv 0) (pa_cons pe_int pa_nil))) pa_nil)) (pg_name (i := 6) S_law_drawn_fence.nd rfl (Or.inl rfl)) (pss_one (ps_expr (pe_bm PySem.F.plainAttrs_list PySem.F.slot_list_append PySem.F.type_list_append mt_appendA (pv 5) (pa_cons (pe_fn F_law_next (hr.mono (by decide)) (by rfl) (pa_cons (pv 0) (pa_cons (pe_ix ix_list (pv 5) (pe_un un_neg pe_int) (fun _ _ => rfl)) (pa_cons (pv 1) (pa_cons (pv 2) (pa_cons (pv 3) pa_nil)))))) pa_nil))))) (pss_cons (ps_if (pw_or (pt_cmpR op_eq (pv 3) pe_str (nomark _)) (pw_or1 (pt_cmpR (op_neI hr.units0) (pe_ix ix_tup (pe_ix ix_list (pv 5) (pe_un un_neg pe_int) (fun _ _ => rfl)) pe_int (fun _ _ => rfl)) (pe_tupA (pa_cons (pv 1) (pa_cons pe_int pa_nil))) (nomark _)))).pt (pss_one (ps_set (i := 5) S_law_drawn_fence.nd rfl (Or.inl rfl) (pe_op op_catA (pv 5) (pe_fn F_law_ended (hr.mono (by decide)) (by rfl) (pa_cons (pe_ix ix_list (pv 5) (pe_un un_neg pe_int) (fun _ _ => rfl)) (pa_cons (pv 1) (pa_cons (pv 3) pa_nil))))))) pss_nil) (pss_one (ps_ret (pv 5)))))),fun v H1 f1 hv b1 p1 => ?_⟩
      refine ⟨_,rfl,sz (by simp),fun l H3 s3 f3 n3 => ?_⟩
      have p3 := p1.same s3
      have npl := Pot.ne p1 n3
      have nl : H l = none := b1.none npl n3
      have b3 : But p H H3 := b1.trans (But.of s3)
      refine ⟨_,rfl,p,_,_,rfl,p3,by omega,⟨by decide,by decide⟩,fun r4 H4 a4 b4' b4 p4 => ?_⟩
      refine ⟨_,rfl,by omega,by omega,?_⟩
      refine for_range (n := r4.toNat) (lo := 0) (fun i σ H5 => ∃ (qs : List Pr) (w : Pr) (z7 : Option V),σ = [some (.ref p),some (.int n),some (.int m),some (.str wy),some (.ref v.p),some (.ref l),z7] ∧ H5 l = some (.lst (prs (qs ++ [w]))) ∧ FI H5 n m wy qs w ∧ (∀ f,(qs ++ [w]).head? = some f → e1B m wy f = true) ∧ qs.length = i ∧ But p H H5 ∧ Pot H5 p (k + 50 + 50 * (i : Int)))
        ⟨[],v,_,rfl,b4 _ _ npl f3,⟨fun r hr => by rw [List.mem_singleton.mp hr]; exact (f1.t s3.t).t (b4.t p3),rfl⟩,fun f hf => by cases hf; exact hv,rfl,b3.trans b4,p4.mono (by omega)⟩ ?_ ?_
      · rintro i σ H5 hi ⟨qs,w,z7,rfl,e5,F5,hd5,hl,b5,p5⟩
        refine ⟨_,rfl,.inl ⟨rfl,_,SqL.of e5⟩,_,rfl,_,rfl,_,rfl,l,_,_,_,rfl,rfl,SqL.of e5,at_snoc qs w,_,rfl,_,rfl,_,rfl,p,w,n,m,_,wy,rfl,p5,by omega,⟨hn0,by omega⟩,⟨hm0,by omega⟩,F5.last,fun r H6 f6 h6 b6 p6 => ?_⟩
        have e6 := b6 _ _ npl e5
        refine ⟨l,_,_,rfl,rfl,e6,small1000 (by rw [prs_len,List.length_append]; simp only [List.length_cons,List.length_nil]; omega),fun H7 u7 => ?_⟩
        refine ⟨qs ++ [w],r,_,rfl,by rw [u7.now]; unfold prs; rw [List.map_append (l₁ := qs ++ [w])]; rfl,(F5.t (b6.t p5)).step u7.t (f6.t u7.t) h6,fun f hf => hd5 f ?_,by simp [hl],fun b o nb e => ?_,?_⟩
        · cases qs with
          | nil => exact hf
          | cons a b => exact hf
        · exact u7.at (fun z => by subst z; rw [nl] at e; cases e) (b6 b o nb (b5 b o nb e))
        · obtain ⟨x,y,z,ep,rest⟩ := p6.mono (k' := k + 50 + 50 * ((i + 1 : Nat) : Int)) (by omega)
          exact ⟨x,y,z,u7.at (Ne.symm npl) ep,rest⟩
      · rintro σ H5 ⟨qs,w,z7,rfl,e5,F5,hd5,hl,b5,p5⟩
        have hq8 : qs.length ≤ 7 := by omega
        have more : ∀ (H6 : Hp),Same H5 H6 → (tSeq (tAsg (tOp rCatA (tVar 5) (tCall spEnded [] E0 (tCons (tOp (rIxL K) (tVar 5) (tUn (rU fun i => V.int (-i)) (tC (V.int 1)))) (tCons (tVar 1) (tCons (tVar 3) tNil))))) (gName 5)) (tRet (tVar 5))) { nx := fun _ H' => Q .non H',rt := Q } [some (.ref p),some (.int n),some (.int m),some (.str wy),some (.ref v.p),some (.ref l),z7] H6 := by
          intro H6 s6
          refine ⟨_,rfl,_,rfl,_,rfl,l,_,_,_,rfl,rfl,SqL.of (s6 _ _ e5),at_snoc qs w,_,rfl,_,rfl,w,n,m,wy,rfl,⟨hn0,by omega⟩,⟨hm0,hm1⟩,F5.last.t s6.t,fun l2 qs2 ps2 v2 H7 e7 el7 F7 hz hl7 n7 s7 => ?_⟩
          refine ⟨l,l2,_,_,rfl,rfl,s7 _ _ (s6 _ _ e5),el7,sz (by rw [prs_len,prs_len,List.length_append]; simp only [List.length_cons,List.length_nil]; omega),fun l3 H8 s8 f8 n8 => ?_⟩
          have F8 := FI.join (F5.t (s6.trans (s7.trans s8)).t) (F7.t s8.t) e7
          have ef : prs (qs ++ [w]) ++ prs ps2 = prs (qs ++ qs2 ++ [v2]) := by
            rw [List.append_assoc,← e7]
            unfold prs
            simp
          have B7 : But p H H7 := b5.trans (But.of (s6.trans s7))
          have p7 := p5.same (s6.trans s7)
          refine ⟨_,rfl,q l3 _ H8 (F8.pairs (by rw [← ef]; exact f8)) (F8.good (fun f hf => hd5 f ?_) ?_) ?_ (B7.none (Pot.ne p7 n8) n8) (B7.trans (But.of s8)) ((p7.same s8).mono (by omega))⟩
          · rw [List.append_assoc,← e7] at hf
            cases qs with
            | nil => exact hf
            | cons a b => exact hf
          · unfold e2B isP
            rw [hz.1,hz.2]
            simp
          · have := congrArg List.length e7
            simp only [List.length_cons,List.length_append,List.length_nil] at this ⊢
            omega
        refine ⟨_,rfl,rfl,_,rfl,ite3 (fun c1 => ?_) (fun c1 => ?_)⟩
        · exact more H5 (Same.refl _)
        refine ⟨_,rfl,_,rfl,l,_,_,_,rfl,rfl,SqL.of e5,at_snoc qs w,w.p,_,_,_,rfl,rfl,SqT.of F5.last.e,rfl,_,rfl,sz (by simp),fun t2 H6 s6 f6 _ => ?_⟩
        refine ⟨w.x,t2,[w.a,w.b],[n,1],rfl,rfl,SqT.of (s6 _ _ F5.last.dx.at_),SqT.of f6,_,rfl,?_⟩
        show if (!decide ([w.a,w.b] = [n,1])) = true then _ else _
        refine ite3 (fun c2 => ?_) (fun c2 => ?_)
        · exact more H6 s6
        have c2 : w.a = n ∧ w.b = 1 := by simpa using c2
        have c1 : ptB wy = false := ds c1
        refine ⟨_,rfl,q l _ H6 ((F5.t s6.t).pairs (s6 _ _ e5)) (F5.good hd5 ?_) ?_ nl (b5.trans (But.of s6)) ((p5.same s6).mono (by omega))⟩
        · unfold e2B isP
          rw [c1,c2.1,c2.2]
          simp
        · simp only [List.length_append,List.length_cons,List.length_nil]
          omega
    obtain ⟨u',hu',fin⟩ := R
    refine ⟨_,(pss_cons (ps_set (i := 4) S_law_drawn_fence.nd rfl (Or.inl rfl) (@pe_tupA _ _ _ _ _ (@pa_cons _ _ _ _ _ (pe_fn F_law_any (hr.mono (by decide)) (by rfl) (pa_cons (pv 0) (pa_cons (pv 1) (pa_cons (pv 3) pa_nil)))) (@pa_cons _ _ _ _ _ (@pe_tupA _ _ _ _ _ (@pa_cons _ _ _ _ _ (pv 2) (@pa_cons _ _ _ _ _ pe_int pa_nil (by rfl)) (by rfl))) pa_nil (by rfl)) (by rfl)))) (pss_cons (ps_if (pw_and (pt_cmpR op_ne (pv 3) pe_str (nomark _)) (pw_and1 (pt_cmpR op_eq (pe_fn F_law_take (hr.mono (by decide)) (by rfl) (pa_cons (pv 0) (pa_cons pe_int pa_nil))) pe_int (nomark _)))).pt (pss_one (ps_set (i := 4) S_law_drawn_fence.nd rfl (Or.inl rfl) (@pe_tupA _ _ _ _ _ (@pa_cons _ _ _ _ _ (@pe_tupA _ _ _ _ _ (@pa_cons _ _ _ _ _ pe_int (@pa_cons _ _ _ _ _ pe_int pa_nil (by rfl)) (by rfl))) (@pa_cons _ _ _ _ _ (pe_fn F_law_any (hr.mono (by decide)) (by rfl) (pa_cons (pv 0) (pa_cons (pv 2) (pa_cons (pv 3) pa_nil)))) pa_nil (by rfl)) (by rfl))))) pss_nil) hu')),?_⟩
    refine ⟨_,rfl,_,rfl,_,rfl,p,n,_,wy,rfl,pt,by omega,⟨hn0,by omega⟩,fun z t b H1 d1 b1 p1 => ?_⟩
    refine ⟨_,rfl,sz (by simp),fun zm H2 s2 f2 _ => ?_⟩
    refine ⟨sz (by simp),fun pp H3 s3 f3 _ => ?_⟩
    have S3 : Same H1 H3 := s2.trans s3
    have p3 := p1.same S3
    have b3 : But p H H3 := b1.trans (But.of S3)
    have dm : Dp H3 zm m 1 m wy := ⟨s3 _ _ f2,⟨by decide,Int.gcd_one⟩,hm0,by omega,bits_le (bits_small (by omega) (by omega)) (by decide),by decide,fun _ => rfl⟩
    have fp : Fp H3 ⟨pp,z,zm,t,b,m,1⟩ n m wy := ⟨f3,d1.t' S3.t,dm,fun _ => .inr rfl⟩
    have ep : e1B m wy ⟨pp,z,zm,t,b,m,1⟩ = true := by
      unfold e1B isP
      simp
    refine ⟨_,rfl,rfl,_,rfl,ite3 (fun c1 => ?_) (fun c1 => ?_)⟩
    · have c1 : ptB wy = false := ds (show decide (V.str wy = V.str (Str.ofString "part")) = false by simpa only [Bool.not_eq_true'] using c1)
      refine ⟨_,rfl,p,_,_,rfl,p3,by omega,⟨by decide,by decide⟩,fun r4 H4 _ _ b4 p4 => ?_⟩
      refine ⟨rfl,_,rfl,ite3 (fun c2 => ?_) (fun c2 => ?_)⟩
      · refine ⟨sz (by simp),fun z0 H5 s5 f5 _ => ?_⟩
        have p5 := p4.same s5
        refine ⟨_,rfl,_,rfl,_,rfl,p,m,_,wy,rfl,p5,by omega,⟨hm0,by omega⟩,fun z2 t2 b2 H6 d6 b6 p6 => ?_⟩
        refine ⟨sz (by simp),fun pq H7 s7 f7 _ => ?_⟩
        have d0 : Dp H5 z0 0 1 n wy := ⟨f5,⟨by decide,by decide⟩,by decide,by omega,by decide,by decide,fun _ => rfl⟩
        have e0 : e1B m wy ⟨pq,z0,z2,0,1,t2,b2⟩ = true := by
          unfold e1B isP
          rw [c1]
          simp
        exact fin ⟨pq,z0,z2,0,1,t2,b2⟩ H7 ⟨f7,(d0.t' (b6.t p5)).t' s7.t,d6.t' s7.t,fun _ => .inl rfl⟩ e0 (b3.trans (b4.trans ((But.of s5).trans (b6.trans (But.of s7))))) ((p6.same s7).mono (by omega))
      · exact fin _ H4 (fp.t (b4.t p3)) ep (b3.trans b4) (p4.mono (by omega))
    · exact fin _ H3 fp ep b3 (p3.mono (by omega))
theorem prs_but {p l : Addr} {H H' : Hp} {ps : List Pr} {k : Int} (h : PairsAt H l ps) (b : But p H H') (pt : Pot H p k) (n : l ≠ p) : PairsAt H' l ps := ⟨b l _ n h.lst,fun q hq => (h.pr q hq).t (b.t pt)⟩
theorem pot_upd {p l : Addr} {H H' : Hp} {xs ys : List V} {k : Int} (u : Upd H H' l xs ys) (pt : Pot H p k) (n : l ≠ p) : Pot H' p k := by
  obtain ⟨x,y,z,ep,rest⟩ := pt
  exact ⟨x,y,z,u.at (Ne.symm n) ep,rest⟩
theorem but_upd {p l : Addr} {H0 H H' : Hp} {xs ys : List V} (b : But p H0 H) (u : Upd H H' l xs ys) (n : H0 l = none) : But p H0 H' := fun c o nc e => u.at (fun z => by subst z; rw [n] at e; cases e) (b c o nc e)
theorem at_prs {ps : List Pr} {i : Int} (h0 : 0 ≤ i) (h1 : i < (ps.length : Int)) : ∃ q,ps[i.toNat]? = some q ∧ q ∈ ps ∧ atI (prs ps) i = some (.ref q.p) := by
  have hk : i.toNat < ps.length := by omega
  refine ⟨ps[i.toNat],List.getElem?_eq_getElem hk,List.getElem_mem hk,?_⟩
  have := atI_nat (xs := prs ps) (j := i.toNat) (v := .ref ps[i.toNat].p) (by unfold prs; rw [List.getElem?_map,List.getElem?_eq_getElem hk]; rfl)
  rw [show ((i.toNat : Nat) : Int) = i by omega] at this
  exact this
def spDWay : Sp := fun vs H Q _ => ∃ (p : Addr) (k : Int),vs = [.ref p] ∧ Pot H p k ∧ k ≤ 600000 ∧ ∀ (wy : Str) (H' : Hp),isWay wy → But p H H' → Pot H' p (k + 1) → Q (.str wy) H'
def spFolded : Sp := fun vs H Q _ => ∃ (a : Addr) (cs : List Int),vs = [.ref a,.int 6] ∧ H a = some (.lst (cs.map V.int)) ∧ cs.length ≤ 100 ∧ ∀ (r : Addr) (zs : List Int) (H' : Hp),H' r = some (.lst (zs.map V.int)) → Same H H' → Q (.ref r) H'
theorem S_law_drawn_way : FnScope ["pot"] ["pot"] (defScope (top 97)) := ⟨rfl,rfl,rfl,by decide +kernel,rfl,by decide +kernel,by decide +kernel⟩
theorem fn_law_drawn_way (D_law_drawn_way : Df K mg "_law_drawn_way" (top 97)) (F_law_take : Fn P w K mg base "_law_take" ["pot","size"] 1 Dr.spTk) : Fn P w K mg base "_law_drawn_way" ["pot"] 2 spDWay := by
  refine D_law_drawn_way.fn S_law_drawn_way (fun _ _ _ _ _ _ us hl => by obtain ⟨_,rfl⟩ := len1 hl; rfl) (fun vs H Q E h => ?_) (fun f cdv A outer s H vs Q E hr h => ?_)
  · obtain ⟨p,k,rfl,_⟩ := h
    rfl
  · obtain ⟨p,k,rfl,pt,hk,q⟩ := h
    refine ⟨_,(pss_one (ps_ret (pe_ix ix_list (pe_lstA (pa_cons pe_str (pa_cons pe_str (pa_cons pe_str (pa_cons pe_str pa_nil))))) (pe_fn F_law_take (hr.mono (by decide)) (by rfl) (pa_cons (pv 0) (pa_cons pe_int pa_nil))) (fun _ _ => rfl)))),?_⟩
    refine ⟨sz (by simp),fun lw H1 s1 f1 n1 => ?_⟩
    have np1 := Pot.ne pt n1
    refine ⟨_,rfl,p,_,_,rfl,pt.same s1,by omega,⟨by decide,by decide⟩,fun r2 H2 a2 b2' b2 p2 => ?_⟩
    refine menu (b2 _ _ np1 f1) a2 (by simpa using b2') fun v hv => ?_
    have B2 : But p H H2 := (But.of s1).trans b2
    simp only [List.mem_cons,List.not_mem_nil,or_false] at hv
    rcases hv with rfl | rfl | rfl | rfl
    · exact q _ H2 (.inl rfl) B2 p2
    · exact q _ H2 (.inr (.inl rfl)) B2 p2
    · exact q _ H2 (.inr (.inr (.inl rfl))) B2 p2
    · exact q _ H2 (.inr (.inr (.inr rfl))) B2 p2
theorem S_law_folded : FnScope ["cells","many","found","k","cell"] ["cells","many"] (defScope (top 74)) := ⟨rfl,rfl,rfl,by decide +kernel,rfl,by decide +kernel,by decide +kernel⟩
theorem fn_law_folded (D_law_folded : Df K mg "_law_folded" (top 74)) (T : Txt mg) : Fn P w K mg base "_law_folded" ["cells","many"] 1 spFolded := by
  refine D_law_folded.fn S_law_folded (fun _ _ _ _ _ _ us hl => by obtain ⟨_,_,rfl⟩ := len2 hl; rfl) (fun vs H Q E h => ?_) (fun f cdv A outer s H vs Q E hr h => ?_)
  · obtain ⟨a,cs,rfl,_⟩ := h
    rfl
  · obtain ⟨a,cs,rfl,ea,hc,q⟩ := h
    refine ⟨_,(pss_cons (ps_set (i := 2) S_law_folded.nd rfl (Or.inl rfl) (pe_op op_repA (pe_lstA (pa_cons pe_int pa_nil)) (pe_callB (call_min2 rfl) (by rfl) T.z_min bt_min (pa_cons (pv 1) (pa_cons (pe_callB (call_max2 rfl) (by rfl) T.z_max bt_max (pa_cons pe_int (pa_cons (pe_callB call_len_seq (by rfl) T.z_len bt_len (pa_cons (pv 0) pa_nil)) pa_nil))) pa_nil))))) (pss_cons (ps_for PassesOwn.never rfl (pi_enum rfl T.z_enumerate (pa_cons (pv 0) pa_nil)) (pg_tup rfl (pgs_cons (pg_name (i := 3) S_law_folded.nd rfl (Or.inl rfl)) (pgs_cons (pg_name (i := 4) S_law_folded.nd rfl (Or.inl rfl)) pgs_nil))) (pss_one (ps_asg (pe_op op_add (pe_op op_mulX (pe_ix ix_list (pv 2) (pe_op op_mod (pv 3) (pe_callB call_len_seq (by rfl) T.z_len bt_len (pa_cons (pv 2) pa_nil))) (fun _ _ => rfl)) pe_int) (pv 4)) (pg_sub (pv 2) (pe_op op_mod (pv 3) (pe_callB call_len_seq (by rfl) T.z_len bt_len (pa_cons (pv 2) pa_nil))) set_listA)))) (pss_one (ps_ret (pv 2))))),?_⟩
    have e63 : (2 : Int) ^ 63 = 9223372036854775808 := by decide
    have hcl : (cs.map V.int).length = cs.length := List.length_map _
    refine ⟨sz (by simp),fun c1 H1 s1 f1 n1 => ?_⟩
    refine ⟨_,rfl,_,rfl,a,_,rfl,.inl (SqL.of (s1 _ _ ea)),_,_,rfl,_,_,rfl,?_⟩
    have hM : 1 ≤ (if (if (((cs.map V.int).length : Nat) : Int) > 1 then (((cs.map V.int).length : Nat) : Int) else 1) < 6 then (if (((cs.map V.int).length : Nat) : Int) > 1 then (((cs.map V.int).length : Nat) : Int) else 1) else 6) ∧ (if (if (((cs.map V.int).length : Nat) : Int) > 1 then (((cs.map V.int).length : Nat) : Int) else 1) < 6 then (if (((cs.map V.int).length : Nat) : Int) > 1 then (((cs.map V.int).length : Nat) : Int) else 1) else 6) ≤ 6 := by
      split <;> split <;> omega
    generalize (if (if (((cs.map V.int).length : Nat) : Int) > 1 then (((cs.map V.int).length : Nat) : Int) else 1) < 6 then (if (((cs.map V.int).length : Nat) : Int) > 1 then (((cs.map V.int).length : Nat) : Int) else 1) else 6) = M at hM
    refine ⟨c1,_,_,rfl,rfl,f1,by rw [e63]; omega,by rw [e63]; omega,sz (by simp; omega),fun r H2 s2 f2 n2 => ?_⟩
    rw [List.flatten_replicate_singleton,show List.replicate M.toNat (V.int 0) = (List.replicate M.toNat 0).map V.int from List.map_replicate.symm] at f2
    have nr : H r = none := s1.free n2
    have ea2 := (s1.trans s2) _ _ ea
    have nar : a ≠ r := ne_of_none ((s1) _ _ ea) n2
    refine ⟨_,rfl,a,rfl,⟨_,SqL.of ea2⟩,for_enum (K := K) (a := a) (xs := cs.map V.int) (fun i σ H3 => ∃ (z1 z2 : Option V) (zs : List Int),σ = [some (.ref a),some (.int 6),some (.ref r),z1,z2] ∧ zs.length = M.toNat ∧ H3 r = some (.lst (zs.map V.int)) ∧ Same H H3)
      ⟨_,_,_,rfl,by simp,f2,s1.trans s2⟩ (fun i σ H3 _ ⟨_,_,_,_,_,_,s3⟩ => SqL.of (s3 _ _ ea)) ?_ ?_⟩
    · rintro i x pp σ H3 H4 hx ⟨z1,z2,zs,rfl,hz,e3,s3⟩ s4 f4
      rw [List.getElem?_map] at hx
      obtain ⟨c,hc',rfl⟩ := Option.map_eq_some_iff.mp hx
      have e4 := s4 _ _ e3
      have hzl : (((zs.map V.int).length : Nat) : Int) = M := by rw [List.length_map,hz]; omega
      have m0 := Int.emod_nonneg (i : Int) (show M ≠ 0 by omega)
      have m1 := Int.emod_lt_of_pos (i : Int) (show 0 < M by omega)
      refine ⟨pp,_,rfl,SqT.of f4,rfl,_,_,rfl,_,_,rfl,rfl,?_⟩
      refine ⟨_,rfl,_,rfl,_,rfl,r,_,rfl,.inl (SqL.of e4),_,_,rfl,rfl,by rw [hzl]; omega,?_⟩
      rw [hzl]
      refine ⟨r,_,_,_,rfl,rfl,SqL.of e4,at_int ((i : Int) % M).toNat (by omega) (by omega),_,_,rfl,rfl,CM.r ⟨by decide,by decide⟩,_,rfl,_,_,rfl,rfl,?_⟩
      refine ⟨_,rfl,_,rfl,_,rfl,r,_,rfl,.inl (SqL.of e4),_,_,rfl,rfl,by rw [hzl]; omega,?_⟩
      rw [hzl]
      refine ⟨r,_,_,_,rfl,rfl,e4,ixN_of m0 (by rw [hzl]; exact m1),fun H5 u => ?_⟩
      exact ⟨_,_,zs.set ((i : Int) % M).toNat (zs[((i : Int) % M).toNat]'(by omega) * 7 + c),rfl,by rw [List.length_set]; exact hz,by rw [u.now,← List.map_set],u.same (s3.trans s4) nr⟩
    · rintro σ H3 ⟨z1,z2,zs,rfl,hz,e3,s3⟩
      exact ⟨_,rfl,q r zs H3 e3 s3⟩
structure PTh0 (H : Hp) (v : V) : Prop where
  kn : ∃ t,Kn H v t
  parts : ∀ p xs,v = .ref p → H p = some (.tup xs) → ∀ y ∈ xs,Thing H y ∧ True
structure PsTh0 (H : Hp) (v : V) : Prop where
  kn : ∃ t,Kn H v t
  parts : ∀ p xs,v = .ref p → H p = some (.lst xs) → xs.length < 900 ∧ ∀ y ∈ xs,PTh0 H y
theorem PTh0.mono {H H' : Hp} {v : V} (h : PTh0 H v) (s : Same H H') : PTh0 H' v := by
  obtain ⟨⟨t,k⟩,pt⟩ := h
  refine ⟨⟨t,k.mono s⟩,fun p xs e1 e2 y hy => ?_⟩
  subst e1
  exact ⟨Thing.mono (pt p xs rfl (kn_back k s e2) y hy).1 s,trivial⟩
theorem PsTh0.mono {H H' : Hp} {v : V} (h : PsTh0 H v) (s : Same H H') : PsTh0 H' v := by
  obtain ⟨⟨t,k⟩,pt⟩ := h
  refine ⟨⟨t,k.mono s⟩,fun p xs e1 e2 => ?_⟩
  subst e1
  obtain ⟨a,b⟩ := pt p xs rfl (kn_back k s e2)
  exact ⟨a,fun y hy => (b y hy).mono s⟩
theorem pairV_same0 {n m : Int} {H H' : Hp} {v : V} (h : PTh0 H v) (s : Same H H') : pairV n m H' v = pairV n m H v := by
  obtain ⟨⟨t,k⟩,pt⟩ := h
  cases k with
  | non => rfl
  | bl b => rfl
  | int i => rfl
  | str x => rfl
  | lst e => simp only [pairV,e,s _ _ e]
  | dict e => simp only [pairV,e,s _ _ e]
  | tup e =>
    have pp := pt _ _ rfl e
    simp only [pairV,e,s _ _ e]
    split
    · rename_i x y h
      cases h
      rw [placeV_same (pp x (by simp)).1 s,placeV_same (pp y (by simp)).1 s]
    · rfl
def spPair0 : Sp := fun vs H Q _ => ∃ (l1 l2 : Addr) (xs1 xs2 : List V) (v : V),vs = [.ref l1,.ref l2,v] ∧ (H l1 = some (.lst xs1) ∧ xs1.length ≤ 100) ∧ (H l2 = some (.lst xs2) ∧ xs2.length ≤ 100) ∧ PTh0 H v ∧ Q (.bl (pairV ((xs1.length : Int) - 1) ((xs2.length : Int) - 1) H v)) H
def spPairs0 : Sp := fun vs H Q _ => ∃ (l1 l2 : Addr) (xs1 xs2 : List V) (v : V),vs = [.ref l1,.ref l2,v] ∧ (H l1 = some (.lst xs1) ∧ xs1.length ≤ 100) ∧ (H l2 = some (.lst xs2) ∧ xs2.length ≤ 100) ∧ PsTh0 H v ∧ ∀ H',Same H H' → Q (.bl (pairsV ((xs1.length : Int) - 1) ((xs2.length : Int) - 1) H v)) H'
def sp2 : Sp := fun vs _ _ _ => ∃ a b : V,vs = [a,b] ∧ False
def sp1 : Sp := fun vs _ _ _ => ∃ a : V,vs = [a] ∧ False
def sp4 : Sp := fun vs _ _ _ => ∃ a b c d : V,vs = [a,b,c,d] ∧ False
def spNot : Sp := fun vs H Q _ => ∃ (l1 l2 : Addr) (xs1 xs2 : List V) (v : V) (wy : Str),vs = [.ref l1,.ref l2,v,.str wy] ∧ (H l1 = some (.lst xs1) ∧ xs1.length ≤ 100) ∧ (H l2 = some (.lst xs2) ∧ xs2.length ≤ 100) ∧ PsTh0 H v ∧ isWay wy ∧ pairsV ((xs1.length : Int) - 1) ((xs2.length : Int) - 1) H v = false ∧ ∀ H',Same H H' → Q (.bl false) H'
def spRef (C : Addr) : Sp := fun vs H _ E => ∃ (l1 l2 : Addr) (xs1 xs2 : List V) (v : V) (wy : Str),vs = [.ref l1,.ref l2,v,.str wy] ∧ (H l1 = some (.lst xs1) ∧ xs1.length ≤ 100) ∧ (H l2 = some (.lst xs2) ∧ xs2.length ≤ 100) ∧ PsTh0 H v ∧ isWay wy ∧ pairsV ((xs1.length : Int) - 1) ((xs2.length : Int) - 1) H v = false ∧ ∀ H',Same H H' → E (.ref C) none H'
theorem S_is_pair : FnScope ["one","other","thing"] ["one","other","thing"] (defScope (top 28)) := ⟨rfl,rfl,rfl,by decide +kernel,rfl,by decide +kernel,by decide +kernel⟩
theorem fn_is_pair (D_is_pair : Df K mg "is_pair" (top 28)) (F_is_place : Fn P w K mg base "is_place" ["line","thing"] 3 spIsPlace) (T : Txt mg) : Fn P w K mg base "is_pair" ["one","other","thing"] 4 spPair0 := by
  refine D_is_pair.fn S_is_pair (fun _ _ _ _ _ _ us hl => by obtain ⟨_,_,_,rfl⟩ := len3 hl; rfl) (fun vs H Q E h => ?_) (fun f cdv A outer s H vs Q E hr h => ?_)
  · obtain ⟨l1,l2,xs1,xs2,v,rfl,_⟩ := h
    rfl
  · obtain ⟨l1,l2,xs1,xs2,v,rfl,⟨e1,n1⟩,⟨e2,n2⟩,pt,q⟩ := h
    refine ⟨_,(pss_cons (ps_if (pw_or (pt_not (pt_val (pe_callB call_isinst (by rfl) T.z_isinstance bt_isinstance (pa_cons (pv 2) (pa_cons (pe_ty T.z_tuple bt_tuple) pa_nil))))) (pw_or1 (pt_cmpR op_ne (pe_callB call_len_seq (by rfl) T.z_len bt_len (pa_cons (pv 2) pa_nil)) pe_int (nomark _)))).pt (pss_one (ps_ret pe_bl)) pss_nil) (pss_one (ps_ret (pe_and (pe_fn F_is_place (hr.mono (by decide)) (by rfl) (pa_cons (pv 0) (pa_cons (pe_ix ix_tup (pv 2) pe_int (fun _ _ => rfl)) pa_nil))) (pe_one (pe_fn F_is_place (hr.mono (by decide)) (by rfl) (pa_cons (pv 1) (pa_cons (pe_ix ix_tup (pv 2) pe_int (fun _ _ => rfl)) pa_nil)))))))),?_⟩
    obtain ⟨t,kn⟩ := pt.kn
    refine ⟨_,rfl,v,t,"tuple",rfl,kn,nice_tuple,_,rfl,?_⟩
    rcases Kn.cases_tp' (n := (xs1.length : Int) - 1) (m := (xs2.length : Int) - 1) kn with ⟨p,xs,rfl,e,rfl⟩ | ⟨hv,hs⟩
    · refine iteFalse (by decide) ?_
      refine ⟨_,rfl,p,xs,rfl,.inr (SqT.of e),rfl,_,rfl,ite3 (fun hc => ?_) (fun hc => ?_)⟩
      · have hn : xs.length ≠ 2 := by
          intro z
          rw [z] at hc
          exact absurd hc (by decide)
        have z : pairV ((xs1.length : Int) - 1) ((xs2.length : Int) - 1) H (.ref p) = false := by
          unfold pairV
          simp only [e]
          split
          · rename_i h
            cases h
            exact absurd rfl hn
          · rfl
        rw [z] at q
        exact q
      · have hn : xs.length = 2 := by
          have z : (xs.length : Int) = 2 := by simpa using hc
          omega
        obtain ⟨x,y,rfl⟩ := len2 hn
        rw [pairV_tup e] at q
        have tx := (pt.parts p _ rfl e x (by simp)).1
        have ty := (pt.parts p _ rfl e y (by simp)).1
        refine ⟨_,rfl,_,rfl,p,_,_,_,rfl,rfl,SqT.of e,rfl,l1,_,_,rfl,e1,n1,tx,_,rfl,ite3 (fun h1 => ?_) (fun h1 => ?_)⟩
        · rw [h1,Bool.true_and] at q
          exact ⟨_,rfl,_,rfl,p,_,_,_,rfl,rfl,SqT.of e,rfl,l2,_,_,rfl,e2,n2,ty,q⟩
        · rw [h1,Bool.false_and] at q
          exact q
    · rw [hv] at q
      rw [hs]
      exact iteT q
theorem S_are_pairs : FnScope ["one","other","thing"] ["one","other","thing"] (defScope (top 29)) := ⟨rfl,rfl,rfl,by decide +kernel,rfl,by decide +kernel,by decide +kernel⟩
theorem fn_are_pairs (D_are_pairs : Df K mg "are_pairs" (top 29)) (F_is_pair : Fn P w K mg base "is_pair" ["one","other","thing"] 4 spPair0) (T : Txt mg) : Fn P w K mg base "are_pairs" ["one","other","thing"] 5 spPairs0 := by
  refine D_are_pairs.fn S_are_pairs (fun _ _ _ _ _ _ us hl => by obtain ⟨_,_,_,rfl⟩ := len3 hl; rfl) (fun vs H Q E h => ?_) (fun f cdv A outer s H vs Q E hr h => ?_)
  · obtain ⟨l1,l2,xs1,xs2,v,rfl,_⟩ := h
    rfl
  · obtain ⟨l1,l2,xs1,xs2,v,rfl,⟨e1,n1⟩,⟨e2,n2⟩,pt,q⟩ := h
    have CN : CompN (cxOf CX0 P w K mg base ["one","other","thing"] "are_pairs" (defScope (top 29)) f cdv A outer s H E).nox (Dr.compScope (retExpr ((defBody (top 29)).getD 1 (.Pass ⟨0,0,0,0⟩)))) [("other",s.heap.objs.size + 2),("one",s.heap.objs.size + 1)] "pair" [("one",0),("other",1)] :=
      ⟨by rfl,rfl,by decide +kernel,by decide +kernel,rfl,(fun p hp => by simp only [List.mem_cons,List.not_mem_nil,or_false] at hp; rcases hp with rfl | rfl <;> rfl),by rfl,by decide +kernel,(fun p hp => by simp only [List.mem_cons,List.not_mem_nil,or_false] at hp; rcases hp with rfl | rfl <;> exact ⟨rfl,rfl,.inr (.inl rfl),rfl,rfl⟩),⟨rfl,rfl⟩,rfl⟩
    refine ⟨_,(pss_cons (ps_if (pw_or (pt_not (pt_val (pe_callB call_isinst (by rfl) T.z_isinstance bt_isinstance (pa_cons (pv 2) (pa_cons (pe_ty T.z_list bt_list) pa_nil))))) (pw_or1 (pt_cmpR op_eq (pe_callB call_len_seq (by rfl) T.z_len bt_len (pa_cons (pv 2) pa_nil)) pe_int (nomark _)))).pt (pss_one (ps_ret pe_bl)) pss_nil) (pss_one (ps_ret (pe_callB (call_all rfl) (by rfl) T.z_all bt_all (pa_cons (pe_compA rfl CN (pi_list (pv 2)) (fun fp s₀ H₀ => (pe_fn F_is_pair (hr.mono (by decide)) (by rfl) (pa_cons (pv 1) (pa_cons (pv 2) (pa_cons (pv 0) pa_nil)))))) pa_nil))))),?_⟩
    obtain ⟨t,kn⟩ := pt.kn
    refine ⟨_,rfl,v,t,"list",rfl,kn,nice_list,_,rfl,?_⟩
    rcases Kn.cases_lst' (n := (xs1.length : Int) - 1) (m := (xs2.length : Int) - 1) kn with ⟨p,xs,rfl,e,rfl⟩ | ⟨hv,hs⟩
    · refine iteFalse (by decide) ?_
      rw [pairsV_lst e] at q
      obtain ⟨hlen,hth⟩ := pt.parts p xs rfl e
      refine ⟨_,rfl,p,xs,rfl,.inl (SqL.of e),rfl,_,rfl,ite3 (fun hc => ?_) (fun hc => ?_)⟩
      · have hn : xs = [] := by
          have z : (xs.length : Int) = 0 := by simpa using hc
          exact List.length_eq_zero_iff.mp (by omega)
        subst hn
        exact q H (Same.refl _)
      · have hn : xs ≠ [] := fun z => by
          subst z
          exact absurd hc (by decide)
        have hne : xs.isEmpty = false := by cases xs with | nil => exact absurd rfl hn | cons x r => rfl
        rw [hne] at q
        refine ⟨_,rfl,p,rfl,⟨_,SqL.of e⟩,comp_R (SqL.of e) (by omega) (fun i v' _ => v' = .bl (pairV ((xs1.length : Int) - 1) ((xs2.length : Int) - 1) H (xs.getD i .non))) (fun _ _ _ _ _ h => h) ?_ ?_⟩
        · intro i x H2 Kc hx s2 kk
          have hm := List.mem_of_getElem? hx
          refine ⟨_,rfl,_,rfl,_,rfl,l1,l2,_,_,_,rfl,⟨s2 _ _ e1,n1⟩,⟨s2 _ _ e2,n2⟩,(hth x hm).mono s2,kk _ _ (Same.refl _) ?_⟩
          rw [pairV_same0 (hth x hm) s2,List.getD_eq_getElem?_getD,hx]
          rfl
        · intro l ys H2 nl s2 f2 hl hr
          have ey : ys = (xs.map (pairV ((xs1.length : Int) - 1) ((xs2.length : Int) - 1) H)).map V.bl := by
            refine List.ext_getElem? fun i => ?_
            by_cases hi : i < xs.length
            · have h1 : ys[i]? = some ys[i] := List.getElem?_eq_getElem (by omega)
              rw [h1,hr i _ h1,List.getElem?_map,List.getElem?_map,List.getElem?_eq_getElem hi,List.getD_eq_getElem?_getD,List.getElem?_eq_getElem hi]
              rfl
            · rw [List.getElem?_eq_none (by omega),List.getElem?_eq_none (by simp; omega)]
          rw [ey] at f2
          refine ⟨l,_,rfl,SqL.of f2,?_⟩
          have z := q H2 s2
          rw [List.all_map]
          exact z
    · rw [hs]
      have z := q H (Same.refl _)
      rw [hv] at z
      exact iteT z
theorem S_has_right_ends_walks : FnScope ["one","other","walk","way","first","last"] ["one","other","walk","way"] (defScope (top 43)) := ⟨rfl,rfl,rfl,by decide +kernel,rfl,by decide +kernel,by decide +kernel⟩
theorem fn_has_right_ends_walks (D_has_right_ends_walks : DfA K mg "has_right_ends_walks" "has_right_ends" (top 43)) : Fn P w K mg base "has_right_ends_walks" ["one","other","walk","way"] 1 sp4 := by
  refine D_has_right_ends_walks.fn S_has_right_ends_walks (fun _ _ _ _ _ _ us hl => by obtain ⟨_,_,_,_,rfl⟩ := len4 hl; rfl) (fun vs H Q E h => ?_) (fun f cdv A outer s H vs Q E hr h => ?_)
  · obtain ⟨a,b,c,d,rfl,_⟩ := h
    rfl
  · obtain ⟨a,b,c,d,rfl,hf⟩ := h
    exact hf.elim
theorem S_has_right_steps_walks : FnScope ["walk","way","begin","end"] ["walk","way"] (defScope (top 50)) := ⟨rfl,rfl,rfl,by decide +kernel,rfl,by decide +kernel,by decide +kernel⟩
theorem fn_has_right_steps_walks (D_has_right_steps_walks : DfA K mg "has_right_steps_walks" "has_right_steps" (top 50)) : Fn P w K mg base "has_right_steps_walks" ["walk","way"] 1 sp2 := by
  refine D_has_right_steps_walks.fn S_has_right_steps_walks (fun _ _ _ _ _ _ us hl => by obtain ⟨_,_,rfl⟩ := len2 hl; rfl) (fun vs H Q E h => ?_) (fun f cdv A outer s H vs Q E hr h => ?_)
  · obtain ⟨a,b,rfl,_⟩ := h
    rfl
  · obtain ⟨a,b,rfl,hf⟩ := h
    exact hf.elim
theorem S_has_right_ends_fences : FnScope ["one","other","fence","way","first","last","begins_on_top","ends_on_ground"] ["one","other","fence","way"] (defScope (top 55)) := ⟨rfl,rfl,rfl,by decide +kernel,rfl,by decide +kernel,by decide +kernel⟩
theorem fn_has_right_ends_fences (D_has_right_ends_fences : DfA K mg "has_right_ends_fences" "has_right_ends" (top 55)) : Fn P w K mg base "has_right_ends_fences" ["one","other","fence","way"] 1 sp4 := by
  refine D_has_right_ends_fences.fn S_has_right_ends_fences (fun _ _ _ _ _ _ us hl => by obtain ⟨_,_,_,_,rfl⟩ := len4 hl; rfl) (fun vs H Q E h => ?_) (fun f cdv A outer s H vs Q E hr h => ?_)
  · obtain ⟨a,b,c,d,rfl,_⟩ := h
    rfl
  · obtain ⟨a,b,c,d,rfl,hf⟩ := h
    exact hf.elim
theorem S_has_right_steps_fences : FnScope ["fence","way"] ["fence","way"] (defScope (top 64)) := ⟨rfl,rfl,rfl,by decide +kernel,rfl,by decide +kernel,by decide +kernel⟩
theorem fn_has_right_steps_fences (D_has_right_steps_fences : DfA K mg "has_right_steps_fences" "has_right_steps" (top 64)) : Fn P w K mg base "has_right_steps_fences" ["fence","way"] 1 sp2 := by
  refine D_has_right_steps_fences.fn S_has_right_steps_fences (fun _ _ _ _ _ _ us hl => by obtain ⟨_,_,rfl⟩ := len2 hl; rfl) (fun vs H Q E h => ?_) (fun f cdv A outer s H vs Q E hr h => ?_)
  · obtain ⟨a,b,rfl,_⟩ := h
    rfl
  · obtain ⟨a,b,rfl,hf⟩ := h
    exact hf.elim
theorem S_has_whole_places : FnScope ["pair"] ["pair"] (defScope (top 60)) := ⟨rfl,rfl,rfl,by decide +kernel,rfl,by decide +kernel,by decide +kernel⟩
theorem fn_has_whole_places (D_has_whole_places : Df K mg "has_whole_places" (top 60)) : Fn P w K mg base "has_whole_places" ["pair"] 1 sp1 := by
  refine D_has_whole_places.fn S_has_whole_places (fun _ _ _ _ _ _ us hl => by obtain ⟨_,rfl⟩ := len1 hl; rfl) (fun vs H Q E h => ?_) (fun f cdv A outer s H vs Q E hr h => ?_)
  · obtain ⟨a,rfl,_⟩ := h
    rfl
  · obtain ⟨a,rfl,hf⟩ := h
    exact hf.elim
theorem S_square_of : FnScope ["one","x","other","y"] ["one","x","other","y"] (defScope (top 36)) := ⟨rfl,rfl,rfl,by decide +kernel,rfl,by decide +kernel,by decide +kernel⟩
theorem fn_square_of (D_square_of : Df K mg "square_of" (top 36)) : Fx P w K mg base "square_of" ["one","x","other","y"] 1 [] sp4 := by
  refine D_square_of.fx S_square_of (fun _ _ _ _ _ _ us hl => by obtain ⟨_,_,_,_,rfl⟩ := len4 hl; rfl) (fun vs H Q E h => ?_) (fun f cdv A outer s H vs Q E hr h => ?_)
  · obtain ⟨a,b,c,d,rfl,_⟩ := h
    rfl
  · obtain ⟨a,b,c,d,rfl,hf⟩ := h
    exact hf.elim
theorem S_number_of_greatest : FnScope ["fractions"] ["fractions"] (defScope (top 21)) := ⟨rfl,rfl,rfl,by decide +kernel,rfl,by decide +kernel,by decide +kernel⟩
theorem fn_number_of_greatest (D_number_of_greatest : Df K mg "number_of_greatest" (top 21)) : Fn P w K mg base "number_of_greatest" ["fractions"] 1 sp1 := by
  refine D_number_of_greatest.fn S_number_of_greatest (fun _ _ _ _ _ _ us hl => by obtain ⟨_,rfl⟩ := len1 hl; rfl) (fun vs H Q E h => ?_) (fun f cdv A outer s H vs Q E hr h => ?_)
  · obtain ⟨a,rfl,_⟩ := h
    rfl
  · obtain ⟨a,rfl,hf⟩ := h
    exact hf.elim
theorem S_number_of_least : FnScope ["fractions","found","number","fraction"] ["fractions"] (defScope (top 20)) := ⟨rfl,rfl,rfl,by decide +kernel,rfl,by decide +kernel,by decide +kernel⟩
theorem fn_number_of_least (D_number_of_least : Df K mg "number_of_least" (top 20)) : Fn P w K mg base "number_of_least" ["fractions"] 1 sp1 := by
  refine D_number_of_least.fn S_number_of_least (fun _ _ _ _ _ _ us hl => by obtain ⟨_,rfl⟩ := len1 hl; rfl) (fun vs H Q E h => ?_) (fun f cdv A outer s H vs Q E hr h => ?_)
  · obtain ⟨a,rfl,_⟩ := h
    rfl
  · obtain ⟨a,rfl,hf⟩ := h
    exact hf.elim
theorem S_measured_squares : FnScope ["one","other","fence","way","squares","begin","end"] ["one","other","fence","way"] (defScope (top 70)) := ⟨rfl,rfl,rfl,by decide +kernel,rfl,by decide +kernel,by decide +kernel⟩
theorem fn_measured_squares (D_measured_squares : Df K mg "measured_squares" (top 70)) : Fn P w K mg base "measured_squares" ["one","other","fence","way"] 1 sp4 := by
  refine D_measured_squares.fn S_measured_squares (fun _ _ _ _ _ _ us hl => by obtain ⟨_,_,_,_,rfl⟩ := len4 hl; rfl) (fun vs H Q E h => ?_) (fun f cdv A outer s H vs Q E hr h => ?_)
  · obtain ⟨a,b,c,d,rfl,_⟩ := h
    rfl
  · obtain ⟨a,b,c,d,rfl,hf⟩ := h
    exact hf.elim
theorem S_is_walk : FnScope ["one","other","thing","way"] ["one","other","thing","way"] (defScope (top 52)) := ⟨rfl,rfl,rfl,by decide +kernel,rfl,by decide +kernel,by decide +kernel⟩
theorem fn_is_walk {C : Addr} (D_is_walk : DfD K mg "is_walk" (top 52) [.str "on"]) (F_look_at_way : Fx P w K mg base "look_at_way" ["way"] 1 [] (spWayS C)) (F_are_pairs : Fn P w K mg base "are_pairs" ["one","other","thing"] 5 spPairs0) (F_has_right_ends_walks : Fn P w K mg base "has_right_ends_walks" ["one","other","walk","way"] 1 sp4) (F_has_right_steps_walks : Fn P w K mg base "has_right_steps_walks" ["walk","way"] 1 sp2) : Fx P w K mg base "is_walk" ["one","other","thing","way"] 7 [.str "on"] spNot := by
  refine D_is_walk.fx S_is_walk (fun T kV doc pm an cdv ct us its oT n s hv hl ho hs => ?_) (fun T kV doc pm an cdv ct us its oT n s hv hl ho hs => ?_) (fun vs H Q E h => ?_) (fun f cdv A outer s H vs Q E hr h => ?_)
  · obtain ⟨u,rfl,_⟩ := vals1 hv
    match us,hl with
    | [_,_,_,_],_ => exact BindsTo.of_defaults rfl ho hs rfl rfl
  · obtain ⟨u,rfl,_⟩ := vals1 hv
    have hl1 : us.length = 3 := by simpa using hl
    match us,hl1 with
    | [_,_,_],_ => exact BindsTo.of_defaults rfl ho hs rfl rfl
  · obtain ⟨l1,l2,xs1,xs2,v,wy,rfl,_⟩ := h
    rfl
  · obtain ⟨l1,l2,xs1,xs2,v,wy,rfl,h1,h2,pt,hw,hv,q⟩ := h
    refine ⟨_,(pss_cons (ps_expr (pe_fx F_look_at_way (hr.mono (by decide)) (by rfl) (pa_cons (pv 3) pa_nil))) (pss_cons (ps_if (pt_not (pt_val (pe_fn F_are_pairs (hr.mono (by decide)) (by rfl) (pa_cons (pv 0) (pa_cons (pv 1) (pa_cons (pv 2) pa_nil)))))) (pss_one (ps_ret pe_bl)) pss_nil) (pss_one (ps_ret (pe_and (pe_fn F_has_right_ends_walks (hr.mono (by decide)) (by rfl) (pa_cons (pv 0) (pa_cons (pv 1) (pa_cons (pv 2) (pa_cons (pv 3) pa_nil))))) (pe_one (pe_fn F_has_right_steps_walks (hr.mono (by decide)) (by rfl) (pa_cons (pv 2) (pa_cons (pv 3) pa_nil))))))))),?_⟩
    refine ⟨_,rfl,.str wy,_,rfl,.str wy,.inl ⟨wy,rfl,hw,?_⟩⟩
    refine ⟨_,rfl,_,rfl,_,rfl,l1,l2,xs1,xs2,v,rfl,h1,h2,pt,fun H1 s1 => ?_⟩
    rw [hv]
    exact ⟨_,rfl,iteTrue rfl (q H1 s1)⟩
theorem S_is_fence : FnScope ["one","other","thing","way"] ["one","other","thing","way"] (defScope (top 66)) := ⟨rfl,rfl,rfl,by decide +kernel,rfl,by decide +kernel,by decide +kernel⟩
theorem fn_is_fence {C : Addr} (D_is_fence : DfD K mg "is_fence" (top 66) [.str "on"]) (F_look_at_way : Fx P w K mg base "look_at_way" ["way"] 1 [] (spWayS C)) (F_are_pairs : Fn P w K mg base "are_pairs" ["one","other","thing"] 5 spPairs0) (F_has_whole_places : Fn P w K mg base "has_whole_places" ["pair"] 1 sp1) (F_has_right_ends_fences : Fn P w K mg base "has_right_ends_fences" ["one","other","fence","way"] 1 sp4) (F_has_right_steps_fences : Fn P w K mg base "has_right_steps_fences" ["fence","way"] 1 sp2) (T : Txt mg) : Fx P w K mg base "is_fence" ["one","other","thing","way"] 7 [.str "on"] spNot := by
  refine D_is_fence.fx S_is_fence (fun T kV doc pm an cdv ct us its oT n s hv hl ho hs => ?_) (fun T kV doc pm an cdv ct us its oT n s hv hl ho hs => ?_) (fun vs H Q E h => ?_) (fun f cdv A outer s H vs Q E hr h => ?_)
  · obtain ⟨u,rfl,_⟩ := vals1 hv
    match us,hl with
    | [_,_,_,_],_ => exact BindsTo.of_defaults rfl ho hs rfl rfl
  · obtain ⟨u,rfl,_⟩ := vals1 hv
    have hl1 : us.length = 3 := by simpa using hl
    match us,hl1 with
    | [_,_,_],_ => exact BindsTo.of_defaults rfl ho hs rfl rfl
  · obtain ⟨l1,l2,xs1,xs2,v,wy,rfl,_⟩ := h
    rfl
  · obtain ⟨l1,l2,xs1,xs2,v,wy,rfl,h1,h2,pt,hw,hv,q⟩ := h
    have CN : CompN (cxOf (CXE P w) P w K mg base ["one","other","thing","way"] "is_fence" (defScope (top 66)) f cdv A outer s H E) (Dr.compScope (notComp ((defBody (top 66)).getD 2 (.Pass ⟨0,0,0,0⟩)))) [] "pair" [] :=
      ⟨by rfl,rfl,by decide +kernel,by decide +kernel,rfl,(fun p hp => nomatch hp),by rfl,by decide +kernel,(fun p hp => nomatch hp),⟨rfl,rfl⟩,rfl⟩
    refine ⟨_,(pss_cons (ps_expr (pe_fx F_look_at_way (hr.mono (by decide)) (by rfl) (pa_cons (pv 3) pa_nil))) (pss_cons (ps_if (pt_not (pt_val (pe_fn F_are_pairs (hr.mono (by decide)) (by rfl) (pa_cons (pv 0) (pa_cons (pv 1) (pa_cons (pv 2) pa_nil)))))) (pss_one (ps_ret pe_bl)) pss_nil) (pss_cons (ps_if (pw_and (pt_cmpR op_eq (pv 3) pe_str (nomark _)) (pw_and1 (pt_not (pt_val (pe_callB (call_all rfl) (by rfl) T.z_all bt_all (pa_cons (pe_compA rfl CN (pi_list (pv 2)) (fun fp s₀ H₀ => (pe_fn F_has_whole_places (hr.mono (by decide)) (by rfl) (pa_cons (pv 0) pa_nil)))) pa_nil)))))).pt (pss_one (ps_ret pe_bl)) pss_nil) (pss_one (ps_ret (pe_and (pe_fn F_has_right_ends_fences (hr.mono (by decide)) (by rfl) (pa_cons (pv 0) (pa_cons (pv 1) (pa_cons (pv 2) (pa_cons (pv 3) pa_nil))))) (pe_one (pe_fn F_has_right_steps_fences (hr.mono (by decide)) (by rfl) (pa_cons (pv 2) (pa_cons (pv 3) pa_nil)))))))))),?_⟩
    refine ⟨_,rfl,.str wy,_,rfl,.str wy,.inl ⟨wy,rfl,hw,?_⟩⟩
    refine ⟨_,rfl,_,rfl,_,rfl,l1,l2,xs1,xs2,v,rfl,h1,h2,pt,fun H1 s1 => ?_⟩
    rw [hv]
    exact ⟨_,rfl,iteTrue rfl (q H1 s1)⟩
theorem S_walk_square : FnScope ["one","other","walk","way","squares"] ["one","other","walk","way"] (defScope (top 53)) := ⟨rfl,rfl,rfl,by decide +kernel,rfl,by decide +kernel,by decide +kernel⟩
theorem fn_walk_square {C9 : Addr} (D_walk_square : DfD K mg "walk_square" (top 53) [.str "on"]) (O_NoWalk : ExcC K mg "NoWalk" C9) (F_is_walk : Fx P w K mg base "is_walk" ["one","other","thing","way"] 7 [.str "on"] spNot) (F_square_of : Fx P w K mg base "square_of" ["one","x","other","y"] 1 [] sp4) (F_number_of_greatest : Fn P w K mg base "number_of_greatest" ["fractions"] 1 sp1) (T : Txt mg) : Fx P w K mg base "walk_square" ["one","other","walk","way"] 8 [.str "on"] (spRef C9) := by
  refine D_walk_square.fx S_walk_square (fun T kV doc pm an cdv ct us its oT n s hv hl ho hs => ?_) (fun T kV doc pm an cdv ct us its oT n s hv hl ho hs => ?_) (fun vs H Q E h => ?_) (fun f cdv A outer s H vs Q E hr h => ?_)
  · obtain ⟨u,rfl,_⟩ := vals1 hv
    match us,hl with
    | [_,_,_,_],_ => exact BindsTo.of_defaults rfl ho hs rfl rfl
  · obtain ⟨u,rfl,_⟩ := vals1 hv
    have hl1 : us.length = 3 := by simpa using hl
    match us,hl1 with
    | [_,_,_],_ => exact BindsTo.of_defaults rfl ho hs rfl rfl
  · obtain ⟨l1,l2,xs1,xs2,v,wy,rfl,_⟩ := h
    rfl
  · obtain ⟨l1,l2,xs1,xs2,v,wy,rfl,h1,h2,pt,hw,hv,q⟩ := h
    have CN : CompN (cxOf (CXE P w) P w K mg base ["one","other","walk","way","squares"] "walk_square" (defScope (top 53)) f cdv A outer s H E) (setScope ((defBody (top 53)).getD 1 (.Pass ⟨0,0,0,0⟩))) [("other",s.heap.objs.size + 2),("one",s.heap.objs.size + 1)] "pair" [("one",0),("other",1)] :=
      ⟨by rfl,rfl,by decide +kernel,by decide +kernel,rfl,(fun p hp => by simp only [List.mem_cons,List.not_mem_nil,or_false] at hp; rcases hp with rfl | rfl <;> rfl),by rfl,by decide +kernel,(fun p hp => by simp only [List.mem_cons,List.not_mem_nil,or_false] at hp; rcases hp with rfl | rfl <;> exact ⟨rfl,rfl,.inr (.inl rfl),rfl,rfl⟩),⟨rfl,rfl⟩,rfl⟩
    refine ⟨_,(pss_cons (ps_if (pt_not (pt_val (pe_fx F_is_walk (hr.mono (by decide)) (by rfl) (pa_cons (pv 0) (pa_cons (pv 1) (pa_cons (pv 2) (pa_cons (pv 3) pa_nil))))))) (pss_one (ps_raise O_NoWalk (by rfl))) pss_nil) (pss_cons (ps_setCompA (j := 4) rfl CN S_walk_square.nd rfl rfl (pi_list (pv 2)) (fun fp s₀ H₀ => (pe_fx0 F_square_of (hr.mono (by decide)) (by rfl) (pa_cons (pv 1) (pa_cons (pe_ix (ix_tupK (K := K) rfl) (pv 0) pe_int (fun _ _ => rfl)) (pa_cons (pv 2) (pa_cons (pe_ix (ix_tupK (K := K) rfl) (pv 0) pe_int (fun _ _ => rfl)) pa_nil))))))) (pss_one (ps_ret (pe_ix ix_list (pv 4) (pe_fn F_number_of_greatest (hr.mono (by decide)) (by rfl) (pa_cons (pv 4) pa_nil)) (fun _ _ => rfl)))))),?_⟩
    refine ⟨_,rfl,_,rfl,_,rfl,_,rfl,l1,l2,xs1,xs2,v,wy,rfl,h1,h2,pt,hw,hv,fun H1 s1 => ?_⟩
    exact ⟨_,rfl,iteTrue rfl (q H1 s1)⟩
theorem S_fence_square : FnScope ["one","other","fence","way","squares"] ["one","other","fence","way"] (defScope (top 71)) := ⟨rfl,rfl,rfl,by decide +kernel,rfl,by decide +kernel,by decide +kernel⟩
theorem fn_fence_square {C9 : Addr} (D_fence_square : DfD K mg "fence_square" (top 71) [.str "on"]) (O_NoFence : ExcC K mg "NoFence" C9) (F_is_fence : Fx P w K mg base "is_fence" ["one","other","thing","way"] 7 [.str "on"] spNot) (F_measured_squares : Fn P w K mg base "measured_squares" ["one","other","fence","way"] 1 sp4) (F_number_of_least : Fn P w K mg base "number_of_least" ["fractions"] 1 sp1) : Fx P w K mg base "fence_square" ["one","other","fence","way"] 8 [.str "on"] (spRef C9) := by
  refine D_fence_square.fx S_fence_square (fun T kV doc pm an cdv ct us its oT n s hv hl ho hs => ?_) (fun T kV doc pm an cdv ct us its oT n s hv hl ho hs => ?_) (fun vs H Q E h => ?_) (fun f cdv A outer s H vs Q E hr h => ?_)
  · obtain ⟨u,rfl,_⟩ := vals1 hv
    match us,hl with
    | [_,_,_,_],_ => exact BindsTo.of_defaults rfl ho hs rfl rfl
  · obtain ⟨u,rfl,_⟩ := vals1 hv
    have hl1 : us.length = 3 := by simpa using hl
    match us,hl1 with
    | [_,_,_],_ => exact BindsTo.of_defaults rfl ho hs rfl rfl
  · obtain ⟨l1,l2,xs1,xs2,v,wy,rfl,_⟩ := h
    rfl
  · obtain ⟨l1,l2,xs1,xs2,v,wy,rfl,h1,h2,pt,hw,hv,q⟩ := h
    refine ⟨_,(pss_cons (ps_if (pt_not (pt_val (pe_fx F_is_fence (hr.mono (by decide)) (by rfl) (pa_cons (pv 0) (pa_cons (pv 1) (pa_cons (pv 2) (pa_cons (pv 3) pa_nil))))))) (pss_one (ps_raise O_NoFence (by rfl))) pss_nil) (pss_cons (ps_set (i := 4) S_fence_square.nd rfl (Or.inl rfl) (pe_fn F_measured_squares (hr.mono (by decide)) (by rfl) (pa_cons (pv 0) (pa_cons (pv 1) (pa_cons (pv 2) (pa_cons (pv 3) pa_nil)))))) (pss_one (ps_ret (pe_ix ix_list (pv 4) (pe_fn F_number_of_least (hr.mono (by decide)) (by rfl) (pa_cons (pv 4) pa_nil)) (fun _ _ => rfl)))))),?_⟩
    refine ⟨_,rfl,_,rfl,_,rfl,_,rfl,l1,l2,xs1,xs2,v,wy,rfl,h1,h2,pt,hw,hv,fun H1 s1 => ?_⟩
    exact ⟨_,rfl,iteTrue rfl (q H1 s1)⟩
def spRefd : Sp := fun vs H Q _ => ∃ (l1 l2 : Addr) (xs1 xs2 : List V) (v : V) (wy : Str) (fb : Bool),vs = [.ref l1,.ref l2,v,.str wy,.bl fb] ∧ (H l1 = some (.lst xs1) ∧ xs1.length ≤ 100) ∧ (H l2 = some (.lst xs2) ∧ xs2.length ≤ 100) ∧ PsTh0 H v ∧ isWay wy ∧ pairsV ((xs1.length : Int) - 1) ((xs2.length : Int) - 1) H v = false ∧ ∀ H',Same H H' → Q (.bl true) H'
theorem all_same0 {n m : Int} {H H' : Hp} (s : Same H H') : ∀ (xs : List V),(∀ y ∈ xs,PTh0 H y) → xs.all (pairV n m H') = xs.all (pairV n m H)
  | [],_ => rfl
  | a :: r,pp => by rw [List.all_cons,List.all_cons,pairV_same0 (pp a (.head _)) s,all_same0 s r fun y hy => pp y (.tail _ hy)]
theorem pairsV_same0 {n m : Int} {H H' : Hp} {v : V} (h : PsTh0 H v) (s : Same H H') : pairsV n m H' v = pairsV n m H v := by
  obtain ⟨⟨t,k⟩,pt⟩ := h
  cases k with
  | non => rfl
  | bl b => rfl
  | int i => rfl
  | str x => rfl
  | tup e => simp only [pairsV,e,s _ _ e]
  | dict e => simp only [pairsV,e,s _ _ e]
  | lst e =>
    simp only [pairsV,e,s _ _ e]
    rw [all_same0 s _ (pt _ _ rfl e).2]
theorem S_law_refused : FnScope ["one","other","thing","way","fences","told","e","others"] ["one","other","thing","way","fences"] (defScope (top 100)) := ⟨rfl,rfl,rfl,by decide +kernel,rfl,by decide +kernel,by decide +kernel⟩
theorem fn_law_refused {B CW CF C1 C2 C3 C4 C5 C6 : Addr} (D_law_refused : Df K mg "_law_refused" (top 100)) (O_LeashError : ExcC K mg "LeashError" B) (O_NoWalk : ExcC K mg "NoWalk" CW) (O_NoFence : ExcC K mg "NoFence" CF) (O_NoLine : ExcC K mg "NoLine" C1) (O_NoPlace : ExcC K mg "NoPlace" C2) (O_NoRatio : ExcC K mg "NoRatio" C3) (O_NoSquare : ExcC K mg "NoSquare" C4) (O_NoText : ExcC K mg "NoText" C5) (O_NoWay : ExcC K mg "NoWay" C6) (m_NoWalk : PySem.W.exmOne K (.ref CW) (.ref B) = some true) (f_NoWalk : ExcF K CW) (if_NoWalk : PySem.W.kitOne K (.ref CW) (.ref CF) = some false) (iw_NoWalk : PySem.W.kitOne K (.ref CW) (.ref CW) = some true) (iv_NoWalk : PySem.W.kitOne K (.ref CW) (.type "ValueError") = some true) (i2_NoWalk : PySem.W.kitAny K (.ref CW) [.ref C1,.ref C2,.ref C3,.ref C4,.ref C5,.ref C6] = some false) (m_NoFence : PySem.W.exmOne K (.ref CF) (.ref B) = some true) (f_NoFence : ExcF K CF) (if_NoFence : PySem.W.kitOne K (.ref CF) (.ref CF) = some true) (iw_NoFence : PySem.W.kitOne K (.ref CF) (.ref CW) = some false) (iv_NoFence : PySem.W.kitOne K (.ref CF) (.type "ValueError") = some true) (i2_NoFence : PySem.W.kitAny K (.ref CF) [.ref C1,.ref C2,.ref C3,.ref C4,.ref C5,.ref C6] = some false) (F_walk_square : Fx P w K mg base "walk_square" ["one","other","walk","way"] 8 [.str "on"] (spRef CW)) (F_fence_square : Fx P w K mg base "fence_square" ["one","other","fence","way"] 8 [.str "on"] (spRef CF)) (T : Txt mg) : Fn P w K mg base "_law_refused" ["one","other","thing","way","fences"] 9 spRefd := by
  refine D_law_refused.fn S_law_refused (fun _ _ _ _ _ _ us hl => by obtain ⟨_,_,_,_,_,rfl⟩ := len5 hl; rfl) (fun vs H Q E h => ?_) (fun f cdv A outer s H vs Q E hr h => ?_)
  · obtain ⟨l1,l2,xs1,xs2,v,wy,fb,rfl,_⟩ := h
    rfl
  · obtain ⟨l1,l2,xs1,xs2,v,wy,fb,rfl,⟨e1,n1⟩,⟨e2,n2⟩,pt,hw,hv,q⟩ := h
    have HM : ∀ Z,(fun D => D = CW ∨ D = CF) Z → PySem.W.exmOne K (.ref Z) (.ref B) = some true := fun Z hC => by
      rcases hC with rfl | rfl
      · exact m_NoWalk
      · exact m_NoFence
    have IE : ∀ e : Addr,CallR (Cx.inH (cxOf CX0 P w K mg base ["one","other","thing","way","fences","told","e","others"] "_law_refused" (defScope (top 100)) f cdv A outer s H E).nox e) (.builtin "isinstance") (rIsEM K (fun D => D = CW ∨ D = CF)) := fun e => call_isexcM fun Z hC => by
      rcases hC with rfl | rfl
      · exact ⟨⟨_,O_NoWalk⟩,f_NoWalk⟩
      · exact ⟨⟨_,O_NoFence⟩,f_NoFence⟩
    refine ⟨_,(pss_cons (ps_set (i := 5) S_law_refused.nd rfl (Or.inl rfl) (pe_tupA pa_nil)) (pss_cons (ps_try_asM (i := 6) rfl rfl (pxs_one (px_if (pt_val (pv 4)) (pxs_one (px_expr F_fence_square (hr.mono (by decide)) (by rfl) (pa_cons (pv 0) (pa_cons (pv 1) (pa_cons (pv 2) (pa_cons (pv 3) pa_nil)))))) (pxs_one (px_expr F_walk_square (hr.mono (by decide)) (by rfl) (pa_cons (pv 0) (pa_cons (pv 1) (pa_cons (pv 2) (pa_cons (pv 3) pa_nil)))))))) O_LeashError (by rfl) (HM) rfl S_law_refused.nd rfl rfl (fun e => (pss_cons (ps_set (i := 7) S_law_refused.nd rfl (Or.inl rfl) (pe_callB (IE e) (by rfl) T.z_isinstance bt_isinstance (pa_cons (pv 6) (pa_cons (@pe_tupA _ _ _ _ _ (@pa_cons _ _ _ _ _ (pe_glob (v := .ref _) (by rfl) O_NoLine.bound rfl) (@pa_cons _ _ _ _ _ (pe_glob (v := .ref _) (by rfl) O_NoPlace.bound rfl) (@pa_cons _ _ _ _ _ (pe_glob (v := .ref _) (by rfl) O_NoRatio.bound rfl) (@pa_cons _ _ _ _ _ (pe_glob (v := .ref _) (by rfl) O_NoSquare.bound rfl) (@pa_cons _ _ _ _ _ (pe_glob (v := .ref _) (by rfl) O_NoText.bound rfl) (@pa_cons _ _ _ _ _ (pe_glob (v := .ref _) (by rfl) O_NoWay.bound rfl) pa_nil (by rfl)) (by rfl)) (by rfl)) (by rfl)) (by rfl)) (by rfl))) pa_nil)))) (pss_one (ps_set (i := 5) S_law_refused.nd rfl (Or.inl rfl) (pe_tupA (pa_cons (pe_callB (IE e) (by rfl) T.z_isinstance bt_isinstance (pa_cons (pv 6) (pa_cons (pe_glob (v := .ref _) (by rfl) O_NoFence.bound rfl) pa_nil))) (pa_cons (pe_callB (IE e) (by rfl) T.z_isinstance bt_isinstance (pa_cons (pv 6) (pa_cons (pe_glob (v := .ref _) (by rfl) O_NoWalk.bound rfl) pa_nil))) (pa_cons (pe_callB (IE e) (by rfl) T.z_isinstance bt_isinstance (pa_cons (pv 6) (pa_cons (pe_ty T.z_ValueError bt_ValueError) pa_nil))) (pa_cons (pv 7) pa_nil)))))))))) (pss_one (ps_ret (pe_cmpR (op_eqD hr.units10) (pv 5) (pe_tupA (pa_cons (pv 4) (pa_cons (pe_not (pv 4)) (pa_cons pe_bl (pa_cons pe_bl pa_nil))))) (nomark _)))))),?_⟩
    refine ⟨sz (by simp),fun t0 H1 s1 f1 n1' => ?_⟩
    have hv1 : pairsV ((xs1.length : Int) - 1) ((xs2.length : Int) - 1) H1 v = false := by rw [pairsV_same0 pt s1]; exact hv
    cases fb with
    | true =>
      refine ⟨_,rfl,_,rfl,iteTrue rfl ?_⟩
      refine ⟨_,rfl,_,rfl,_,rfl,_,rfl,l1,l2,xs1,xs2,v,wy,rfl,⟨s1 _ _ e1,n1⟩,⟨s1 _ _ e2,n2⟩,pt.mono s1,hw,hv1,fun H2 s2 => ?_⟩
      refine ⟨CF,rfl,.inr rfl,fun e he => ?_⟩
      have fe : (upd H2 e (excO CF e)) e = some (excO CF e) := upd_same
      have se : Same H2 (upd H2 e (excO CF e)) := Same.new he
      generalize upd H2 e (excO CF e) = H3 at fe se ⊢
      refine ⟨_,rfl,sz (by simp),fun pt3 H4 s4 f4 n4 => ⟨CF,.inr rfl,e,_,_,rfl,s4 _ _ fe,.inr (.inr ⟨pt3,[C1,C2,C3,C4,C5,C6],rfl,f4,i2_NoFence⟩),?_⟩⟩
      refine ⟨_,rfl,CF,.inr rfl,e,_,_,rfl,s4 _ _ fe,.inl ⟨_,rfl,if_NoFence⟩,_,rfl,CF,.inr rfl,e,_,_,rfl,s4 _ _ fe,.inl ⟨_,rfl,iw_NoFence⟩,_,rfl,CF,.inr rfl,e,_,_,rfl,s4 _ _ fe,.inr (.inl ⟨_,rfl,iv_NoFence⟩),_,rfl,sz (by simp),fun r H5 s5 f5 n5 => ?_⟩
      refine ⟨_,rfl,_,rfl,_,rfl,_,rfl,sz (by simp),fun r6 H6 s6 f6 n6 => ?_⟩
      refine ⟨_,_,Rp.t4 (s6 _ _ f5) .bl .bl .bl .bl,Rp.t4 f6 .bl .bl .bl .bl,?_⟩
      rw [show (!true) = false from rfl,deq_self]
      exact q H6 (s1.trans (s2.trans (se.trans (s4.trans (s5.trans s6)))))
    | false =>
      refine ⟨_,rfl,_,rfl,iteFalse (by decide) ?_⟩
      refine ⟨_,rfl,_,rfl,_,rfl,_,rfl,l1,l2,xs1,xs2,v,wy,rfl,⟨s1 _ _ e1,n1⟩,⟨s1 _ _ e2,n2⟩,pt.mono s1,hw,hv1,fun H2 s2 => ?_⟩
      refine ⟨CW,rfl,.inl rfl,fun e he => ?_⟩
      have fe : (upd H2 e (excO CW e)) e = some (excO CW e) := upd_same
      have se : Same H2 (upd H2 e (excO CW e)) := Same.new he
      generalize upd H2 e (excO CW e) = H3 at fe se ⊢
      refine ⟨_,rfl,sz (by simp),fun pt3 H4 s4 f4 n4 => ⟨CW,.inl rfl,e,_,_,rfl,s4 _ _ fe,.inr (.inr ⟨pt3,[C1,C2,C3,C4,C5,C6],rfl,f4,i2_NoWalk⟩),?_⟩⟩
      refine ⟨_,rfl,CW,.inl rfl,e,_,_,rfl,s4 _ _ fe,.inl ⟨_,rfl,if_NoWalk⟩,_,rfl,CW,.inl rfl,e,_,_,rfl,s4 _ _ fe,.inl ⟨_,rfl,iw_NoWalk⟩,_,rfl,CW,.inl rfl,e,_,_,rfl,s4 _ _ fe,.inr (.inl ⟨_,rfl,iv_NoWalk⟩),_,rfl,sz (by simp),fun r H5 s5 f5 n5 => ?_⟩
      refine ⟨_,rfl,_,rfl,_,rfl,_,rfl,sz (by simp),fun r6 H6 s6 f6 n6 => ?_⟩
      refine ⟨_,_,Rp.t4 (s6 _ _ f5) .bl .bl .bl .bl,Rp.t4 f6 .bl .bl .bl .bl,?_⟩
      rw [show (!false) = true from rfl,deq_self]
      exact q H6 (s1.trans (s2.trans (se.trans (s4.trans (s5.trans s6)))))
structure Sd (n k : Nat) (d : PyData) : Prop where
  ok : d.showable = true
  dp : d.depth ≤ n
  sz : d.shown.length ≤ k
theorem Sd.wide {n k n' k' : Nat} {d : PyData} (h : Sd n k d) (hn : n ≤ n') (hk : k ≤ k') : Sd n' k' d := ⟨h.ok,Nat.le_trans h.dp hn,Nat.le_trans h.sz hk⟩
theorem Sd.int {i : Int} (h : i.natAbs < 10 ^ 80) : Sd 0 81 (.int i) := by
  refine ⟨?_,Nat.le_refl _,?_⟩
  · simp only [PyData.showable,decide_eq_true_eq]
    by_cases h0 : i.natAbs = 0
    · rw [h0]
      decide
    · have : i.natAbs.log2 < 266 := (Nat.log2_lt h0).mpr (Nat.lt_of_lt_of_le h (Nat.le_of_lt (by decide +kernel)))
      omega
  · have e := PySem.int_text_length_le10 (k := 80) (by decide) h
    show (Str.ofString (toString i)).length ≤ 81
    rw [ofString_length]
    exact e
theorem shownAll_map : ∀ ds : List PyData,PyData.shownAll ds = ds.map PyData.shown
  | [] => rfl
  | d :: r => by rw [PyData.shownAll,shownAll_map r,List.map_cons]
theorem shown_sum {k : Nat} : ∀ {ds : List PyData},(∀ d ∈ ds,d.shown.length ≤ k) → ((PyData.shownAll ds).map (·.length)).sum ≤ k * ds.length
  | [],_ => by simp [PyData.shownAll]
  | d :: r,h => by
    rw [PyData.shownAll,List.map_cons,List.sum_cons,List.length_cons,Nat.mul_succ]
    have h1 := h d (.head _)
    have h2 := shown_sum fun x hx => h x (.tail _ hx)
    omega
theorem showableAll_of : ∀ {ds : List PyData},(∀ d ∈ ds,d.showable = true) → PyData.showableAll ds = true
  | [],_ => rfl
  | d :: r,h => by rw [PyData.showableAll,h d (.head _),showableAll_of fun x hx => h x (.tail _ hx)]; rfl
theorem depthAll_of {n : Nat} : ∀ {ds : List PyData},(∀ d ∈ ds,d.depth ≤ n) → PyData.depthAll ds ≤ n
  | [],_ => Nat.zero_le _
  | d :: r,h => by
    rw [PyData.depthAll]
    exact Nat.max_le.mpr ⟨h d (.head _),depthAll_of fun x hx => h x (.tail _ hx)⟩
theorem shownAll_len (ds : List PyData) : (PyData.shownAll ds).length = ds.length := by rw [shownAll_map,List.length_map]
theorem Sd.list {n k : Nat} {ds : List PyData} (h : ∀ d ∈ ds,Sd n k d) : Sd (n + 1) ((k + 2) * ds.length + 3) (.list ds) := by
  refine ⟨by simp only [PyData.showable]; exact showableAll_of fun d hd => (h d hd).ok,by simp only [PyData.depth]; have := depthAll_of fun d hd => (h d hd).dp; omega,?_⟩
  have h1 := listText_len_le (PyData.shownAll ds)
  have h2 := shown_sum fun d hd => (h d hd).sz
  rw [shownAll_len] at h1
  simp only [PyData.shown]
  have : (k + 2) * ds.length = k * ds.length + 2 * ds.length := Nat.add_mul _ _ _
  omega
theorem Sd.tuple {n k : Nat} {ds : List PyData} (h : ∀ d ∈ ds,Sd n k d) : Sd (n + 1) ((k + 2) * ds.length + 3) (.tuple ds) := by
  refine ⟨by simp only [PyData.showable]; exact showableAll_of fun d hd => (h d hd).ok,by simp only [PyData.depth]; have := depthAll_of fun d hd => (h d hd).dp; omega,?_⟩
  have h1 := tupleText_len_le (PyData.shownAll ds)
  have h2 := shown_sum fun d hd => (h d hd).sz
  rw [shownAll_len] at h1
  simp only [PyData.shown]
  have : (k + 2) * ds.length = k * ds.length + 2 * ds.length := Nat.add_mul _ _ _
  omega
structure Odd (n : Int) (H : Hp) (v : V) : Prop where
  no : placeV n H v = false
  th : Thing H v
  rq : ∃ d,Rq H v d ∧ Sd 2 300 d
def spOdd : Sp := fun vs H Q _ => ∃ (p pl : Addr) (a b n k : Int),vs = [.ref p,.ref pl,.int n] ∧ Pot H p k ∧ k ≤ 500000 ∧ H pl = some (.tup [.int a,.int b]) ∧ (Low a b ∧ 0 ≤ a) ∧ (0 ≤ n ∧ n ≤ 20) ∧ (bits a ≤ 200 ∧ bits b ≤ 60) ∧ ∀ (v : V) (H' : Hp),(∀ H'' : Hp,SameT H' H'' → (∀ a xs,H a = none → H' a = some (.lst xs) → H'' a = some (.lst xs)) → Odd n H'' v) → But p H H' → Pot H' p (k + 20) → Q v H'
theorem b10 {a : Int} {n : Nat} (h : bits a ≤ n) (hn : n ≤ 262) : a.natAbs < 10 ^ 80 := Nat.lt_of_lt_of_le (bits_lt h) (Nat.le_trans (Nat.pow_le_pow_right (by decide) hn) (Nat.le_of_lt (by decide +kernel)))
theorem odd_two {n : Int} {H : Hp} {r : Addr} {x y : Int} (e : H r = some (.tup [.int x,.int y])) (hx : x.natAbs < 10 ^ 80) (hy : y.natAbs < 10 ^ 80) (no : placeL n [.int x,.int y] = false) : Odd n H (.ref r) := by
  refine ⟨by simp only [placeV,e]; exact no,⟨⟨_,.tup e⟩,fun q xs e1 e2 z hz => ?_⟩,.tuple [.int x,.int y],.tup e (.cons (.int x) (.cons (.int y) .nil)),?_⟩
  · cases e1
    rw [e] at e2
    cases e2
    simp only [List.mem_cons,List.not_mem_nil,or_false] at hz
    rcases hz with rfl | rfl <;> exact ⟨_,.int _⟩
  · have := Sd.tuple (n := 0) (k := 81) (ds := [.int x,.int y]) fun d hd => by
      simp only [List.mem_cons,List.not_mem_nil,or_false] at hd
      rcases hd with rfl | rfl
      · exact Sd.int hx
      · exact Sd.int hy
    exact this.wide (by decide) (by simp)
theorem low_no {n x y : Int} (h : ¬ (0 < y ∧ Int.gcd x y = 1 ∧ 0 ≤ x ∧ x ≤ n * y)) : placeL n [.int x,.int y] = false := by
  cases hc : placeL n [.int x,.int y] with
  | false => rfl
  | true =>
    simp only [placeL,lowB,Bool.and_eq_true,decide_eq_true_eq] at hc
    exact absurd ⟨by omega,hc.1.2,hc.2.1,hc.2.2⟩ h
theorem odd_sc {n : Int} {H : Hp} {v : V} {t : String} {d : PyData} (kn : Kn H v t) (no : placeV n H v = false) (hr : ∀ a,v ≠ .ref a) (rq : Rq H v d) (sd : Sd 2 300 d) : Odd n H v := ⟨no,⟨⟨t,kn⟩,fun q xs e1 => absurd e1 (hr q)⟩,d,rq,sd⟩
theorem odd_tup {n : Int} {H : Hp} {r : Addr} {xs : List V} {ds : List PyData} (e : H r = some (.tup xs)) (no : placeL n xs = false) (kn : ∀ y ∈ xs,∃ t,Kn H y t) (rq : Rqs H xs ds) (sd : Sd 2 300 (.tuple ds)) : Odd n H (.ref r) := by
  refine ⟨by simp only [placeV,e]; exact no,⟨⟨_,.tup e⟩,fun q zs e1 e2 z hz => ?_⟩,_,.tup e rq,sd⟩
  cases e1
  rw [e] at e2
  cases e2
  exact kn z hz
theorem S_law_odd : FnScope ["pot","place","last","far","some"] ["pot","place","last"] (defScope (top 98)) := ⟨rfl,rfl,rfl,by decide +kernel,rfl,by decide +kernel,by decide +kernel⟩
theorem fn_law_odd (D_law_odd : Df K mg "_law_odd" (top 98)) (F_law_wide : Fn P w K mg base "_law_wide" ["pot","size"] 2 Dr.spWd) (F_law_take : Fn P w K mg base "_law_take" ["pot","size"] 1 Dr.spTk) (T : Txt mg) : Fn P w K mg base "_law_odd" ["pot","place","last"] 3 spOdd := by
  refine D_law_odd.fn S_law_odd (fun _ _ _ _ _ _ us hl => by obtain ⟨_,_,_,rfl⟩ := len3 hl; rfl) (fun vs H Q E h => ?_) (fun f cdv A outer s H vs Q E hr h => ?_)
  · obtain ⟨p,pl,a,b,n,k,rfl,_⟩ := h
    rfl
  · obtain ⟨p,pl,a,b,n,k,rfl,p0,hk,e,⟨lo,ha0⟩,⟨hn0,hn20⟩,⟨ba,bb⟩,q⟩ := h
    refine ⟨_,(pss_cons (ps_set (i := 3) S_law_odd.nd rfl (Or.inl rfl) (pe_op op_add pe_int (pe_fn F_law_wide (hr.mono (by decide)) (by rfl) (pa_cons (pv 0) (pa_cons (pe_op op_pow pe_int pe_int) pa_nil))))) (@pss_cons _ _ _ _ _ (@ps_set _ _ 4 _ _ _ _ S_law_odd.nd rfl (Or.inl rfl) (@pe_lstA _ _ _ _ (@pa_cons _ _ _ _ _ pe_non (@pa_cons _ _ _ _ _ pe_str (@pa_cons _ _ _ _ _ pe_bl (@pa_cons _ _ _ _ _ pe_int (@pa_cons _ _ _ _ _ (@pe_lstA _ _ _ _ (@pa_cons _ _ _ _ _ pe_int (@pa_cons _ _ _ _ _ pe_int pa_nil (by rfl)) (by rfl))) (@pa_cons _ _ _ _ _ (@pe_tupA _ _ _ _ _ (@pa_cons _ _ _ _ _ pe_int pa_nil (by rfl))) (@pa_cons _ _ _ _ _ (@pe_tupA _ _ _ _ _ (@pa_cons _ _ _ _ _ pe_int (@pa_cons _ _ _ _ _ pe_int (@pa_cons _ _ _ _ _ pe_int pa_nil (by rfl)) (by rfl)) (by rfl))) (@pa_cons _ _ _ _ _ (@pe_tupA _ _ _ _ _ (@pa_cons _ _ _ _ _ (pe_op op_mulX pe_int (pe_ix ix_tup (pv 1) pe_int (fun _ _ => rfl))) (@pa_cons _ _ _ _ _ (pe_op op_mulX pe_int (pe_ix ix_tup (pv 1) pe_int (fun _ _ => rfl))) pa_nil (by rfl)) (by rfl))) (@pa_cons _ _ _ _ _ (@pe_tupA _ _ _ _ _ (@pa_cons _ _ _ _ _ (pe_un un_neg (pe_ix ix_tup (pv 1) pe_int (fun _ _ => rfl))) (@pa_cons _ _ _ _ _ (pe_un un_neg (pe_ix ix_tup (pv 1) pe_int (fun _ _ => rfl))) pa_nil (by rfl)) (by rfl))) pa_nil (by rfl)) (by rfl)) (by rfl)) (by rfl)) (by rfl)) (by rfl)) (by rfl)) (by rfl)) (by rfl))) (by rfl) (by first | exact .inl rfl | exact .inr rfl | assumption)) (pss_cons (ps_set (i := 4) S_law_odd.nd rfl (Or.inl rfl) (pe_op op_catA (pv 4) (@pe_lstA _ _ _ _ (@pa_cons _ _ _ _ _ (@pe_tupA _ _ _ _ _ (@pa_cons _ _ _ _ _ (pe_ix ix_tup (pv 1) pe_int (fun _ _ => rfl)) (@pa_cons _ _ _ _ _ pe_int pa_nil (by rfl)) (by rfl))) (@pa_cons _ _ _ _ _ (@pe_tupA _ _ _ _ _ (@pa_cons _ _ _ _ _ (pe_op op_add (pe_op op_mulX (pv 2) (pv 3)) pe_int) (@pa_cons _ _ _ _ _ (pv 3) pa_nil (by rfl)) (by rfl))) (@pa_cons _ _ _ _ _ (@pe_tupA _ _ _ _ _ (@pa_cons _ _ _ _ _ (pe_un un_neg (pv 3)) (@pa_cons _ _ _ _ _ pe_int pa_nil (by rfl)) (by rfl))) (@pa_cons _ _ _ _ _ (@pe_tupA _ _ _ _ _ (@pa_cons _ _ _ _ _ pe_int (@pa_cons _ _ _ _ _ (pe_op op_add (pv 3) pe_int) pa_nil (by rfl)) (by rfl))) (@pa_cons _ _ _ _ _ (@pe_tupA _ _ _ _ _ (@pa_cons _ _ _ _ _ pe_bl (@pa_cons _ _ _ _ _ pe_int pa_nil (by rfl)) (by rfl))) (@pa_cons _ _ _ _ _ (@pe_tupA _ _ _ _ _ (@pa_cons _ _ _ _ _ (pe_ix ix_tup (pv 1) pe_int (fun _ _ => rfl)) (@pa_cons _ _ _ _ _ pe_bl pa_nil (by rfl)) (by rfl))) pa_nil (by rfl)) (by rfl)) (by rfl)) (by rfl)) (by rfl)) (by rfl))))) (pss_cons (ps_expr (pe_bm PySem.F.plainAttrs_list PySem.F.slot_list_append PySem.F.type_list_append mt_appendA (pv 4) (pa_cons (pe_tupA (pa_cons pe_str (pa_cons pe_int pa_nil))) pa_nil))) (pss_one (ps_ret (pe_ix ix_list (pv 4) (pe_fn F_law_take (hr.mono (by decide)) (by rfl) (pa_cons (pv 0) (pa_cons (pe_callB call_len_seq (by rfl) T.z_len bt_len (pa_cons (pv 4) pa_nil)) pa_nil))) (fun _ _ => rfl)))))))),?_⟩
    refine ⟨_,rfl,_,_,rfl,rfl,⟨by decide,by decide,by decide⟩,p,_,_,rfl,p0,by omega,⟨by decide,by decide⟩,fun r1 H1 a1 b1' b1 p1 => ?_⟩
    have e40 : (10 : Int) ^ (40 : Int).toNat = 10000000000000000000000000000000000000000 := by decide +kernel
    rw [e40] at b1'
    refine ⟨_,_,rfl,rfl,?_⟩
    have e1 : H1 pl = some (.tup [.int a,.int b]) := b1.t p0 _ _ e
    refine ⟨sz (by simp),fun t1 H2 s2 f2 n2 => ?_⟩
    refine ⟨sz (by simp),fun t2 H3 s3 f3 n3 => ?_⟩
    refine ⟨sz (by simp),fun t3 H4 s4 f4 n4 => ?_⟩
    have S4 := s2.trans (s3.trans s4)
    have e4 := S4 _ _ e1
    have b2 : bits 2 ≤ 2 := by decide
    refine ⟨_,rfl,pl,_,_,_,rfl,rfl,SqT.of e4,rfl,_,_,rfl,rfl,CM.of b2 ba ⟨by decide,by decide⟩,?_⟩
    refine ⟨_,rfl,pl,_,_,_,rfl,rfl,SqT.of e4,rfl,_,_,rfl,rfl,CM.of b2 bb ⟨by decide,by decide⟩,sz (by simp),fun t4 H5 s5 f5 n5 => ?_⟩
    have e5 := s5 _ _ e4
    refine ⟨_,rfl,pl,_,_,_,rfl,rfl,SqT.of e5,rfl,_,rfl,?_⟩
    refine ⟨_,rfl,pl,_,_,_,rfl,rfl,SqT.of e5,rfl,_,rfl,sz (by simp),fun t5 H6 s6 f6 n6 => ?_⟩
    refine ⟨sz (by simp),fun l7 H7 s7 f7 n7 => ?_⟩
    have e7 := s7 _ _ (s6 _ _ e5)
    refine ⟨_,rfl,_,rfl,pl,_,_,_,rfl,rfl,SqT.of e7,rfl,sz (by simp),fun u1 J1 y1 g1 _ => ?_⟩
    refine ⟨_,rfl,_,rfl,_,_,rfl,rfl,CM.of (m := 5) (n := 140) (bits_of (by omega)) (bits_of (by omega)) ⟨by decide,by decide⟩,_,_,rfl,rfl,_,rfl,sz (by simp),fun u2 J2 y2 g2 _ => ?_⟩
    refine ⟨_,rfl,_,rfl,sz (by simp),fun u3 J3 y3 g3 _ => ?_⟩
    refine ⟨_,rfl,_,_,rfl,rfl,sz (by simp),fun u4 J4 y4 g4 _ => ?_⟩
    refine ⟨sz (by simp),fun u5 J5 y5 g5 _ => ?_⟩
    have Y5 := y1.trans (y2.trans (y3.trans (y4.trans y5)))
    refine ⟨_,rfl,pl,_,_,_,rfl,rfl,SqT.of (Y5 _ _ e7),rfl,sz (by simp),fun u6 J6 y6 g6 _ => ?_⟩
    refine ⟨sz (by simp),fun l8 J7 y7 g7 _ => ?_⟩
    have Y7 := Y5.trans (y6.trans y7)
    refine ⟨l7,l8,_,_,rfl,rfl,Y7 _ _ f7,g7,sz (by simp),fun l9 J8 y8 g8 n8 => ?_⟩
    refine ⟨_,rfl,.inl ⟨rfl,_,SqL.of g8⟩,sz (by simp),fun u7 J9 y9 g9 _ => ?_⟩
    refine ⟨l9,_,_,rfl,rfl,y9 _ _ g8,small1000 (by simp),fun J10 w10 => ?_⟩
    have Z7 : Same H1 J7 := S4.trans (s5.trans (s6.trans (s7.trans Y7)))
    have Z9 : Same H1 J9 := Z7.trans (y8.trans y9)
    have nl9 : l9 ≠ p := Pot.ne (p1.same Z7) n8
    have p10 := pot_upd w10 (p1.same Z9) nl9
    have h9 : H l9 = none := b1.none nl9 (Z7.free n8)
    refine ⟨_,rfl,_,rfl,_,rfl,l9,_,rfl,.inl (SqL.of w10.now),p,_,_,rfl,p10,by omega,⟨by simp,by simp; decide⟩,fun r11 J11 a11 b11' b11 p11 => ?_⟩
    refine menu (b11 _ _ nl9 w10.now) a11 b11' fun v hv => ?_
    have B11 : But p H J11 := (but_upd (b1.trans (But.of Z9)) w10 h9).trans b11
    have tt : SameT J9 J11 := fun b zs e => b11.t p10 b zs (w10.t b zs e)
    have U8 := y8.trans y9
    refine q v J11 (fun J12 st sl => ?_) B11 (p11.mono (by omega))
    have tt : SameT J9 J12 := fun b zs e => st b zs (tt b zs e)
    have hlo := lo.pos
    have hgc := lo.one
    have z2 : ∀ {x : Int} {m : Nat},bits x ≤ m → m ≤ 260 → (2 * x).natAbs < 10 ^ 80 := fun {x m} h hm => b10 (bits_mul b2 h) (by omega)
    have zn : ∀ {x : Int} {m : Nat},bits x ≤ m → m ≤ 260 → (-x).natAbs < 10 ^ 80 := fun {x m} h hm => by rw [Int.natAbs_neg]; exact b10 h (by omega)
    have zs : ∀ {x : Int},x.natAbs < 10 ^ 42 → x.natAbs < 10 ^ 80 := fun h => Nat.lt_of_lt_of_le h (Nat.le_of_lt (by decide +kernel))
    have i1 : Sd 1 81 (.int 1) := (Sd.int (by decide)).wide (by decide) (by decide)
    have i0 : Sd 1 81 (.int 0) := (Sd.int (by decide)).wide (by decide) (by decide)
    have X7 : Same H7 J9 := Y7.trans U8
    simp only [List.mem_append,List.mem_cons,List.not_mem_nil,or_false,or_assoc] at hv
    rcases hv with rfl | rfl | rfl | rfl | rfl | rfl | rfl | rfl | rfl | rfl | rfl | rfl | rfl | rfl | rfl | rfl
    · exact odd_sc .non rfl (fun a z => nomatch z) .non ⟨rfl,by decide,by decide +kernel⟩
    · exact odd_sc (.str _) rfl (fun a z => nomatch z) (.str _) ⟨rfl,by decide,by decide +kernel⟩
    · exact odd_sc (.bl _) rfl (fun a z => nomatch z) (.bl _) ⟨rfl,by decide,by decide +kernel⟩
    · exact odd_sc (.int _) rfl (fun a z => nomatch z) (.int _) (i0.wide (by decide) (by decide))
    · have c7 := (s3.trans (s4.trans (s5.trans (s6.trans (s7.trans Y7))))) _ _ f2
      have ht1 := sl _ _ (b1.none (Pot.ne p1 n2) n2) (b11 _ _ (Pot.ne p1 n2) (w10.at (ne_of_none c7 n8) (U8 _ _ c7)))
      refine ⟨by simp only [placeV,ht1],⟨⟨_,.lst ht1⟩,fun q xs e1 e2 => by cases e1; rw [ht1] at e2; cases e2⟩,_,.lst ht1 (.cons (.int 0) (.cons (.int 1) .nil)),?_⟩
      refine (Sd.list (n := 1) (k := 81) fun d hd => ?_).wide (by decide) (by simp)
      simp only [List.mem_cons,List.not_mem_nil,or_false] at hd
      rcases hd with rfl | rfl
      · exact i0
      · exact i1
    · refine odd_tup (tt _ _ (X7 _ _ ((s4.trans (s5.trans (s6.trans s7))) _ _ f3))) rfl (fun y hy => ?_) (.cons (.int 0) .nil) ((Sd.tuple (n := 1) (k := 81) fun d hd => ?_).wide (by decide) (by simp))
      · rw [List.mem_singleton.mp hy]
        exact ⟨_,.int _⟩
      · rw [List.mem_singleton.mp hd]
        exact i0
    · refine odd_tup (tt _ _ (X7 _ _ ((s5.trans (s6.trans s7)) _ _ f4))) rfl (fun y hy => ?_) (.cons (.int 0) (.cons (.int 1) (.cons (.int 1) .nil))) ((Sd.tuple (n := 1) (k := 81) fun d hd => ?_).wide (by decide) (by simp))
      · simp only [List.mem_cons,List.not_mem_nil,or_false] at hy
        rcases hy with rfl | rfl | rfl <;> exact ⟨_,.int _⟩
      · simp only [List.mem_cons,List.not_mem_nil,or_false] at hd
        rcases hd with rfl | rfl | rfl
        · exact i0
        · exact i1
        · exact i1
    · exact odd_two (tt _ _ (X7 _ _ (s7 _ _ (s6 _ _ f5)))) (z2 ba (by decide)) (z2 bb (by decide)) (low_no fun h => by
        have := h.2.1
        rw [Int.gcd_mul_left,hgc] at this
        exact absurd this (by decide))
    · exact odd_two (tt _ _ (X7 _ _ (s7 _ _ f6))) (zn ba (by decide)) (zn bb (by decide)) (low_no fun h => by omega)
    · exact odd_two (tt _ _ ((y2.trans (y3.trans (y4.trans (y5.trans (y6.trans (y7.trans U8)))))) _ _ g1)) (b10 ba (by decide)) (by decide) (low_no fun h => by omega)
    · exact odd_two (tt _ _ ((y3.trans (y4.trans (y5.trans (y6.trans (y7.trans U8))))) _ _ g2)) (zs (by
        have h1 : n * (1 + r1) ≤ 20 * (1 + r1) := Int.mul_le_mul_of_nonneg_right hn20 (by omega)
        have h2 : 0 ≤ n * (1 + r1) := Int.mul_nonneg hn0 (by omega)
        omega)) (zs (by omega)) (low_no fun h => by omega)
    · exact odd_two (tt _ _ ((y4.trans (y5.trans (y6.trans (y7.trans U8)))) _ _ g3)) (zs (by omega)) (by decide) (low_no fun h => by omega)
    · exact odd_two (tt _ _ ((y5.trans (y6.trans (y7.trans U8))) _ _ g4)) (by decide) (zs (by omega)) (low_no fun h => by
        have := h.2.1
        rw [Int.gcd_zero_left] at this
        omega)
    · refine odd_tup (tt _ _ ((y6.trans (y7.trans U8)) _ _ g5)) rfl (fun y hy => ?_) (.cons (.bl false) (.cons (.int 1) .nil)) ((Sd.tuple (n := 1) (k := 81) fun d hd => ?_).wide (by decide) (by simp))
      · simp only [List.mem_cons,List.not_mem_nil,or_false] at hy
        rcases hy with rfl | rfl
        · exact ⟨_,.bl _⟩
        · exact ⟨_,.int _⟩
      · simp only [List.mem_cons,List.not_mem_nil,or_false] at hd
        rcases hd with rfl | rfl
        · exact ⟨rfl,by decide,by decide +kernel⟩
        · exact i1
    · refine odd_tup (tt _ _ ((y7.trans U8) _ _ g6)) rfl (fun y hy => ?_) (.cons (.int a) (.cons (.bl true) .nil)) ((Sd.tuple (n := 1) (k := 81) fun d hd => ?_).wide (by decide) (by simp))
      · simp only [List.mem_cons,List.not_mem_nil,or_false] at hy
        rcases hy with rfl | rfl
        · exact ⟨_,.int _⟩
        · exact ⟨_,.bl _⟩
      · simp only [List.mem_cons,List.not_mem_nil,or_false] at hd
        rcases hd with rfl | rfl
        · exact (Sd.int (b10 ba (by decide))).wide (by decide) (by decide)
        · exact ⟨rfl,by decide,by decide +kernel⟩
    · refine odd_tup (tt _ _ g9) rfl (fun y hy => ?_) (.cons (.str _) (.cons (.int 1) .nil)) ((Sd.tuple (n := 1) (k := 81) fun d hd => ?_).wide (by decide) (by simp))
      · simp only [List.mem_cons,List.not_mem_nil,or_false] at hy
        rcases hy with rfl | rfl
        · exact ⟨_,.str _⟩
        · exact ⟨_,.int _⟩
      · simp only [List.mem_cons,List.not_mem_nil,or_false] at hd
        rcases hd with rfl | rfl
        · exact ⟨rfl,by decide,by decide +kernel⟩
        · exact i1
structure It (H : Hp) (y : V) : Prop where
  th : PTh0 H y
  rq : ∃ d,Rq H y d ∧ Sd 4 1000 d
structure NoneT (n m : Int) (H : Hp) (v : V) : Prop where
  no : pairsV n m H v = false
  th : PsTh0 H v
  rq : ∃ d,Rq H v d ∧ Sd 6 200000 d
def spNone : Sp := fun vs H Q _ => ∃ (p l : Addr) (n m k : Int) (ps : List Pr),vs = [.ref p,.ref l,.int n,.int m] ∧ Pot H p k ∧ k ≤ 400000 ∧ PairsAt H l ps ∧ (1 ≤ ps.length ∧ ps.length ≤ 60) ∧ (0 ≤ n ∧ n ≤ 20) ∧ (0 ≤ m ∧ m ≤ 20) ∧ ∀ (v : V) (H' : Hp),NoneT n m H' v → But p H H' → Q v H'
theorem its_rqs {H : Hp} : ∀ {xs : List V},(∀ y ∈ xs,It H y) → ∃ ds,Rqs H xs ds ∧ ds.length = xs.length ∧ ∀ d ∈ ds,Sd 4 1000 d
  | [],_ => ⟨[],.nil,rfl,fun d h => nomatch h⟩
  | a :: r,h => by
    obtain ⟨d,rq,sd⟩ := (h a (.head _)).rq
    obtain ⟨ds,rs,hl,hs⟩ := its_rqs fun y hy => h y (.tail _ hy)
    refine ⟨d :: ds,.cons rq rs,by simp [hl],fun z hz => ?_⟩
    rcases List.mem_cons.mp hz with rfl | hz
    · exact sd
    · exact hs z hz
theorem none_list {n m : Int} {H : Hp} {l : Addr} {xs : List V} (e : H l = some (.lst xs)) (hl : xs.length ≤ 61) (hi : ∀ y ∈ xs,It H y) (hb : xs = [] ∨ ∃ y ∈ xs,pairV n m H y = false) : NoneT n m H (.ref l) := by
  obtain ⟨ds,rs,hd,sd⟩ := its_rqs hi
  refine ⟨?_,⟨⟨_,.lst e⟩,fun q zs e1 e2 => ?_⟩,_,.lst e rs,(Sd.list sd).wide (by decide) ?_⟩
  · simp only [pairsV,e]
    rcases hb with rfl | ⟨y,hy,hp⟩
    · rfl
    · have : xs.all (pairV n m H) = false := by
        cases h : xs.all (pairV n m H) with
        | false => rfl
        | true =>
          have := List.all_eq_true.mp h y hy
          rw [hp] at this
          cases this
      rw [this,Bool.and_false]
  · cases e1
    rw [e] at e2
    cases e2
    exact ⟨by omega,fun y hy => (hi y hy).th⟩
  · have : (1000 + 2) * ds.length ≤ 1002 * 61 := Nat.mul_le_mul_left _ (by omega)
    omega
theorem th_two {H : Hp} {p : Addr} {a b : Int} (e : H p = some (.tup [.int a,.int b])) : Thing H (.ref p) := ⟨⟨_,.tup e⟩,fun q xs e1 e2 y hy => by
  cases e1
  rw [e] at e2
  cases e2
  simp only [List.mem_cons,List.not_mem_nil,or_false] at hy
  rcases hy with rfl | rfl <;> exact ⟨_,.int _⟩⟩
theorem rq_two {H : Hp} {p : Addr} {a b : Int} (e : H p = some (.tup [.int a,.int b])) (ha : bits a ≤ 200) (hb : bits b ≤ 60) : ∃ d,Rq H (.ref p) d ∧ Sd 2 300 d := by
  refine ⟨_,.tup e (.cons (.int a) (.cons (.int b) .nil)),(Sd.tuple (n := 0) (k := 81) fun d hd => ?_).wide (by decide) (by simp)⟩
  simp only [List.mem_cons,List.not_mem_nil,or_false] at hd
  rcases hd with rfl | rfl
  · exact Sd.int (b10 ha (by decide))
  · exact Sd.int (b10 hb (by decide))
theorem it_two {H : Hp} {t : Addr} {x y : V} (e : H t = some (.tup [x,y])) (hx : Thing H x) (hy : Thing H y) (rx : ∃ d,Rq H x d ∧ Sd 2 300 d) (ry : ∃ d,Rq H y d ∧ Sd 2 300 d) : It H (.ref t) := by
  obtain ⟨dx,rx,sx⟩ := rx
  obtain ⟨dy,ry,sy⟩ := ry
  refine ⟨⟨⟨_,.tup e⟩,fun q zs e1 e2 z hz => ?_⟩,_,.tup e (.cons rx (.cons ry .nil)),(Sd.tuple (n := 2) (k := 300) fun d hd => ?_).wide (by decide) (by simp)⟩
  · cases e1
    rw [e] at e2
    cases e2
    simp only [List.mem_cons,List.not_mem_nil,or_false] at hz
    rcases hz with rfl | rfl
    · exact ⟨hx,trivial⟩
    · exact ⟨hy,trivial⟩
  · simp only [List.mem_cons,List.not_mem_nil,or_false] at hd
    rcases hd with rfl | rfl
    · exact sx
    · exact sy
theorem pr_it {H : Hp} {q : Pr} (h : PrAt H q) : It H (.ref q.p) := it_two h.p_ (th_two h.x_) (th_two h.y_) (rq_two h.x_ h.ba h.bb) (rq_two h.y_ h.bc h.bd)
theorem mem_setV {xs : List V} {i : Nat} {v y : V} (h : y ∈ xs.set i v) : y ∈ xs ∨ y = v := List.mem_or_eq_of_mem_set h
theorem none_set {n m : Int} {H : Hp} {l : Addr} {ps : List Pr} {i : Nat} {v : V} (e : H l = some (.lst ((prs ps).set i v))) (hi : i < ps.length) (hl : ps.length ≤ 60) (hp : ∀ q ∈ ps,PrAt H q) (it : It H v) (no : pairV n m H v = false) : NoneT n m H (.ref l) := by
  refine none_list e (by rw [List.length_set,prs_len]; omega) (fun y hy => ?_) (.inr ⟨v,?_,no⟩)
  · rcases mem_setV hy with hy | rfl
    · obtain ⟨q,hq,rfl⟩ := List.mem_map.mp hy
      exact pr_it (hp q hq)
    · exact it
  · exact List.mem_of_getElem? (i := i) (by rw [List.getElem?_set_self (by rw [prs_len]; exact hi)])
theorem sdw {n k : Nat} {d : PyData} (h : Sd n k d) (hn : n ≤ 4 := by decide) (hk : k ≤ 1000 := by decide) : Sd 4 1000 d := h.wide hn hk
theorem sd_dict {ds : List PyData} (h : Sd 5 60123 (.list ds)) : Sd 6 200000 (.dict [(kD (.inr (Str.ofString "walk")),.list ds)]) := by
  refine ⟨by simp only [PyData.showable,PyData.showableKv,kD,Bool.and_true,Bool.true_and]; exact h.ok,by have := h.dp; simp only [PyData.depth,PyData.depthKv,kD] at this ⊢; omega,?_⟩
  have h1 := dictText_len_le (PyData.shownKv [(kD (.inr (Str.ofString "walk")),.list ds)])
  have h2 := h.sz
  have h3 : (PyData.shown (kD (.inr (Str.ofString "walk")))).length = 6 := by decide +kernel
  have h4 : (Str.ofString ": ").length = 2 := rfl
  show (dictText (PyData.shownKv [(kD (.inr (Str.ofString "walk")),.list ds)])).length ≤ 200000
  simp only [PyData.shownKv,List.map_cons,List.map_nil,List.sum_cons,List.sum_nil,List.length_cons,List.length_nil,Str.length_append] at h1 ⊢
  omega
theorem it_sc {H : Hp} {v : V} {t : String} {d : PyData} (kn : Kn H v t) (hr : ∀ a,v ≠ .ref a) (rq : Rq H v d) (sd : Sd 4 1000 d) : It H v := ⟨⟨⟨t,kn⟩,fun q xs e1 => absurd e1 (hr q)⟩,d,rq,sd⟩
theorem it_lst {H : Hp} {l : Addr} {xs : List V} {ds : List PyData} (e : H l = some (.lst xs)) (rq : Rqs H xs ds) (sd : Sd 4 1000 (.list ds)) : It H (.ref l) := ⟨⟨⟨_,.lst e⟩,fun q zs e1 e2 => by cases e1; rw [e] at e2; cases e2⟩,_,.lst e rq,sd⟩
theorem it_tup {H : Hp} {l : Addr} {xs : List V} {ds : List PyData} (e : H l = some (.tup xs)) (th : ∀ y ∈ xs,Thing H y) (rq : Rqs H xs ds) (sd : Sd 4 1000 (.tuple ds)) : It H (.ref l) := ⟨⟨⟨_,.tup e⟩,fun q zs e1 e2 z hz => by cases e1; rw [e] at e2; cases e2; exact ⟨th z hz,trivial⟩⟩,_,.tup e rq,sd⟩
theorem no_lst {n m : Int} {H : Hp} {l : Addr} {xs : List V} (e : H l = some (.lst xs)) : pairV n m H (.ref l) = false := by simp only [pairV,e]
theorem rq_pr {H : Hp} {q : Pr} (h : PrAt H q) : ∃ d,Rqs H [.ref q.x,.ref q.y] d ∧ d.length = 2 ∧ ∀ z ∈ d,Sd 2 300 z := by
  obtain ⟨dx,rx,sx⟩ := rq_two h.x_ h.ba h.bb
  obtain ⟨dy,ry,sy⟩ := rq_two h.y_ h.bc h.bd
  refine ⟨[dx,dy],.cons rx (.cons ry .nil),rfl,fun z hz => ?_⟩
  simp only [List.mem_cons,List.not_mem_nil,or_false] at hz
  rcases hz with rfl | rfl
  · exact sx
  · exact sy
theorem S_law_none : FnScope ["pot","pairs","n","m","made","at","turn"] ["pot","pairs","n","m"] (defScope (top 99)) := ⟨rfl,rfl,rfl,by decide +kernel,rfl,by decide +kernel,by decide +kernel⟩
theorem fn_law_none (D_law_none : Df K mg "_law_none" (top 99)) (F_law_take : Fn P w K mg base "_law_take" ["pot","size"] 1 Dr.spTk) (F_law_odd : Fn P w K mg base "_law_odd" ["pot","place","last"] 3 spOdd) (T : Txt mg) : Fn P w K mg base "_law_none" ["pot","pairs","n","m"] 4 spNone := by
  refine D_law_none.fn S_law_none (fun _ _ _ _ _ _ us hl => by obtain ⟨_,_,_,_,rfl⟩ := len4 hl; rfl) (fun vs H Q E h => ?_) (fun f cdv A outer s H vs Q E hr h => ?_)
  · obtain ⟨p,l,n,m,k,ps,rfl,_⟩ := h
    rfl
  · obtain ⟨p,l,n,m,k,ps,rfl,p0,hk,PP,⟨hp1,hp2⟩,⟨hn0,hn1⟩,⟨hm0,hm1⟩,q⟩ := h
    have R : ∃ u : TS,PSs (cxOf CX0 P w K mg base ["pot","pairs","n","m","made","at","turn"] "_law_none" (defScope (top 99)) f cdv A outer s H E).nox ((defBody (top 99)).drop 4) u ∧ ∀ (l1 : Addr) (z5 z6 : Option V) (H4 : Hp),NoneT n m H4 (.ref l1) → But p H H4 → u { nx := fun _ H' => Q .non H',rt := Q } [some (.ref p),some (.ref l),some (.int n),some (.int m),some (.ref l1),z5,z6] H4 := by
      refine ⟨_,(pss_one (ps_ret (pv 4))),fun l1 z5 z6 H4 nt b4 => ?_⟩
      exact ⟨_,rfl,q _ H4 nt b4⟩
    obtain ⟨u,hu,fin⟩ := R
    refine ⟨_,(pss_cons (ps_set (i := 4) S_law_none.nd rfl (Or.inl rfl) (pe_callTy call_list_ofA (by rfl) T.z_list bt_list (pa_cons (pv 1) pa_nil))) (pss_cons (ps_set (i := 5) S_law_none.nd rfl (Or.inl rfl) (pe_fn F_law_take (hr.mono (by decide)) (by rfl) (pa_cons (pv 0) (pa_cons (pe_callB call_len_seq (by rfl) T.z_len bt_len (pa_cons (pv 4) pa_nil)) pa_nil)))) (pss_cons (ps_set (i := 6) S_law_none.nd rfl (Or.inl rfl) (pe_fn F_law_take (hr.mono (by decide)) (by rfl) (pa_cons (pv 0) (pa_cons pe_int pa_nil)))) (pss_cons (ps_if (pt_cmpR op_lt (pv 6) pe_int (nomark _)) (pss_one (ps_asg (pe_tupA (pa_cons (pe_fn F_law_odd (hr.mono (by decide)) (by rfl) (pa_cons (pv 0) (pa_cons (pe_ix ix_tup (pe_ix ix_list (pv 4) (pv 5) (fun _ _ => rfl)) pe_int (fun _ _ => rfl)) (pa_cons (pv 2) pa_nil)))) (pa_cons (pe_ix ix_tup (pe_ix ix_list (pv 4) (pv 5) (fun _ _ => rfl)) pe_int (fun _ _ => rfl)) pa_nil))) (pg_sub (pv 4) (pv 5) set_listA))) (pss_one (ps_if (pt_cmpR op_lt (pv 6) pe_int (nomark _)) (pss_one (ps_asg (pe_tupA (pa_cons (pe_ix ix_tup (pe_ix ix_list (pv 4) (pv 5) (fun _ _ => rfl)) pe_int (fun _ _ => rfl)) (pa_cons (pe_fn F_law_odd (hr.mono (by decide)) (by rfl) (pa_cons (pv 0) (pa_cons (pe_ix ix_tup (pe_ix ix_list (pv 4) (pv 5) (fun _ _ => rfl)) pe_int (fun _ _ => rfl)) (pa_cons (pv 3) pa_nil)))) pa_nil))) (pg_sub (pv 4) (pv 5) set_listA))) (pss_one (ps_if (pt_cmpR op_eq (pv 6) pe_int (nomark _)) (pss_one (ps_asg (pe_ix ix_list (@pe_lstA _ _ _ _ (@pa_cons _ _ _ _ _ (pe_callTy call_list_ofA (by rfl) T.z_list bt_list (pa_cons (pe_ix ix_list (pv 4) (pv 5) (fun _ _ => rfl)) pa_nil)) (@pa_cons _ _ _ _ _ (pe_op op_catTA (pe_ix ix_list (pv 4) (pv 5) (fun _ _ => rfl)) (@pe_tupA _ _ _ _ _ (@pa_cons _ _ _ _ _ (@pe_tupA _ _ _ _ _ (@pa_cons _ _ _ _ _ pe_int (@pa_cons _ _ _ _ _ pe_int pa_nil (by rfl)) (by rfl))) pa_nil (by rfl)))) (@pa_cons _ _ _ _ _ (pe_slice sl_tup (pe_ix ix_list (pv 4) (pv 5) (fun _ _ => rfl)) po_none (po_some pe_int)) (@pa_cons _ _ _ _ _ pe_non (@pa_cons _ _ _ _ _ pe_str pa_nil (by rfl)) (by rfl)) (by rfl)) (by rfl)) (by rfl))) (pe_fn F_law_take (hr.mono (by decide)) (by rfl) (pa_cons (pv 0) (pa_cons pe_int pa_nil))) (fun _ _ => rfl)) (pg_sub (pv 4) (pv 5) set_listA))) (pss_one (ps_if (pt_cmpR op_eq (pv 6) pe_int (nomark _)) (pss_one (ps_ret (pe_ix ix_list (@pe_lstA _ _ _ _ (@pa_cons _ _ _ _ _ pe_non (@pa_cons _ _ _ _ _ (@pe_lstA _ _ _ _ pa_nil) (@pa_cons _ _ _ _ _ pe_str (@pa_cons _ _ _ _ _ pe_int (@pa_cons _ _ _ _ _ pe_dnewK (@pa_cons _ _ _ _ _ (pe_callTy call_tuple_of (by rfl) T.z_tuple bt_tuple (pa_cons (pv 4) pa_nil)) (@pa_cons _ _ _ _ _ (pe_disp (pps_cons pe_str (pv 4) pps_nil) rfl rfl (by simp) (by decide)) (@pa_cons _ _ _ _ _ (@pe_lstA _ _ _ _ (@pa_cons _ _ _ _ _ (pv 4) pa_nil (by rfl))) pa_nil (by rfl)) (by rfl)) (by rfl)) (by rfl)) (by rfl)) (by rfl)) (by rfl)) (by rfl))) (pe_fn F_law_take (hr.mono (by decide)) (by rfl) (pa_cons (pv 0) (pa_cons pe_int pa_nil))) (fun _ _ => rfl)))) (pss_one (ps_if (pt_cmpR op_eq (pv 6) pe_int (nomark _)) (pss_one (ps_expr (pe_bm PySem.F.plainAttrs_list PySem.F.slot_list_insert PySem.F.type_list_insert mt_insA (pv 4) (pa_cons (pv 5) (pa_cons (pe_ix ix_list (@pe_lstA _ _ _ _ (@pa_cons _ _ _ _ _ (@pe_tupA _ _ _ _ _ pa_nil) (@pa_cons _ _ _ _ _ (@pe_lstA _ _ _ _ pa_nil) (@pa_cons _ _ _ _ _ pe_non pa_nil (by rfl)) (by rfl)) (by rfl))) (pe_fn F_law_take (hr.mono (by decide)) (by rfl) (pa_cons (pv 0) (pa_cons pe_int pa_nil))) (fun _ _ => rfl)) pa_nil))))) (pss_one (ps_asg (pe_tupA (pa_cons (pe_ix ix_tup (pe_ix ix_list (pv 4) (pv 5) (fun _ _ => rfl)) pe_int (fun _ _ => rfl)) (pa_cons (pe_callTy call_list_ofA (by rfl) T.z_list bt_list (pa_cons (pe_ix ix_tup (pe_ix ix_list (pv 4) (pv 5) (fun _ _ => rfl)) pe_int (fun _ _ => rfl)) pa_nil)) pa_nil))) (pg_sub (pv 4) (pv 5) set_listA)))))))))))) hu)))),?_⟩
    refine ⟨_,rfl,l,_,rfl,.inl (SqL.of PP.lst),fun l1 H1 s1 f1 n1 => ?_⟩
    have P1 : PairsAt H1 l1 ps := ⟨f1,(PP.mono s1).pr⟩
    have np := Pot.ne p0 n1
    have p1 := p0.same s1
    refine ⟨_,rfl,_,rfl,l1,_,rfl,.inl (SqL.of f1),p,_,_,rfl,p1,by omega,⟨by rw [prs_len]; omega,bits_le (bits_small (by omega) (by rw [prs_len]; omega)) (by decide)⟩,fun at_ H2 a2 b2' b2 p2 => ?_⟩
    rw [prs_len] at b2'
    have P2 := prs_but P1 b2 p1 np
    refine ⟨_,rfl,p,_,_,rfl,p2,by omega,⟨by decide,by decide⟩,fun tn H3 a3 b3' b3 p3 => ?_⟩
    have P3 := prs_but P2 b3 p2 np
    have B3 : But p H H3 := (But.of s1).trans (b2.trans b3)
    obtain ⟨q0,hq0,mq0,eq0⟩ := at_prs (ps := ps) a2 b2'
    have ha : at_.toNat < ps.length := by omega
    have hix : ixN (prs ps).length at_ = some at_.toNat := ixN_of a2 (by rw [prs_len]; exact b2')
    have Q3 := P3.pr q0 mq0
    refine ⟨_,rfl,_,_,rfl,rfl,_,rfl,ite3 (fun c1 => ?_) (fun c1 => ?_)⟩
    · refine ⟨_,rfl,_,rfl,_,rfl,l1,_,_,_,rfl,rfl,SqL.of P3.lst,eq0,q0.p,_,_,_,rfl,rfl,SqT.of Q3.p_,rfl,_,rfl,p,q0.x,q0.a,q0.b,n,_,rfl,p3,by omega,Q3.x_,⟨Q3.lx,Q3.nx⟩,⟨hn0,hn1⟩,⟨Q3.ba,Q3.bb⟩,fun v H4 od b4 p4 => ?_⟩
      have P4 := prs_but P3 b4 p3 np
      have Q4 := P4.pr q0 mq0
      refine ⟨_,rfl,_,rfl,l1,_,_,_,rfl,rfl,SqL.of P4.lst,eq0,q0.p,_,_,_,rfl,rfl,SqT.of Q4.p_,rfl,sz (by simp),fun t5 H5 s5 f5 n5 => ?_⟩
      refine ⟨_,rfl,_,rfl,l1,_,_,_,rfl,rfl,(P4.mono s5).lst,hix,fun H6 u6 => ?_⟩
      have P5 := P4.mono s5
      have nl : ∀ a,H3 a = none → a ≠ l1 := fun a h z => by subst z; rw [P3.lst] at h; cases h
      have od6 := od H6 (fun b zs e => u6.t b zs (s5 _ _ e)) fun a xs h e => u6.at (nl a h) (s5 _ _ e)
      have Q6 := (P5.pr q0 mq0).t u6.t
      have f6 := u6.t _ _ f5
      exact fin l1 _ _ H6 (none_set u6.now ha hp2 (fun z hz => (P5.pr z hz).t u6.t) (it_two f6 od6.th (th_two Q6.y_) od6.rq (rq_two Q6.y_ Q6.bc Q6.bd)) (by rw [pairV_tup f6,od6.no,Bool.false_and])) (but_upd (B3.trans (b4.trans (But.of s5))) u6 n1)
    refine ⟨_,rfl,_,_,rfl,rfl,_,rfl,ite3 (fun c2 => ?_) (fun c2 => ?_)⟩
    · refine ⟨_,rfl,_,rfl,l1,_,_,_,rfl,rfl,SqL.of P3.lst,eq0,q0.p,_,_,_,rfl,rfl,SqT.of Q3.p_,rfl,?_⟩
      refine ⟨_,rfl,_,rfl,_,rfl,l1,_,_,_,rfl,rfl,SqL.of P3.lst,eq0,q0.p,_,_,_,rfl,rfl,SqT.of Q3.p_,rfl,_,rfl,p,q0.y,q0.c,q0.d,m,_,rfl,p3,by omega,Q3.y_,⟨Q3.ly,Q3.ny⟩,⟨hm0,hm1⟩,⟨Q3.bc,Q3.bd⟩,fun v H4 od b4 p4 => ?_⟩
      have P4 := prs_but P3 b4 p3 np
      refine ⟨sz (by simp),fun t5 H5 s5 f5 n5 => ?_⟩
      refine ⟨_,rfl,_,rfl,l1,_,_,_,rfl,rfl,(P4.mono s5).lst,hix,fun H6 u6 => ?_⟩
      have P5 := P4.mono s5
      have nl : ∀ a,H3 a = none → a ≠ l1 := fun a h z => by subst z; rw [P3.lst] at h; cases h
      have od6 := od H6 (fun b zs e => u6.t b zs (s5 _ _ e)) fun a xs h e => u6.at (nl a h) (s5 _ _ e)
      have Q6 := (P5.pr q0 mq0).t u6.t
      have f6 := u6.t _ _ f5
      exact fin l1 _ _ H6 (none_set u6.now ha hp2 (fun z hz => (P5.pr z hz).t u6.t) (it_two f6 (th_two Q6.x_) od6.th (rq_two Q6.x_ Q6.ba Q6.bb) od6.rq) (by rw [pairV_tup f6,od6.no,Bool.and_false])) (but_upd (B3.trans (b4.trans (But.of s5))) u6 n1)
    refine ⟨_,rfl,rfl,_,rfl,ite3 (fun c3 => ?_) (fun c3 => ?_)⟩
    · refine ⟨_,rfl,_,rfl,l1,_,_,_,rfl,rfl,SqL.of P3.lst,eq0,q0.p,_,rfl,.inr (SqT.of Q3.p_),fun t4 H4 s4 f4 n4 => ?_⟩
      have P4 := P3.mono s4
      refine ⟨_,rfl,_,rfl,l1,_,_,_,rfl,rfl,SqL.of P4.lst,eq0,sz (by simp),fun t5 H5 s5 f5 n5 => ?_⟩
      refine ⟨sz (by simp),fun t6 H6 s6 f6 n6 => ?_⟩
      have P6 := (P4.mono s5).mono s6
      refine ⟨q0.p,t6,_,_,rfl,rfl,(P6.pr q0 mq0).p_,f6,⟨by simp,by simp⟩,sz (by simp),fun t7 H7 s7 f7 n7 => ?_⟩
      have P7 := P6.mono s7
      refine ⟨_,rfl,_,rfl,l1,_,_,_,rfl,rfl,SqL.of P7.lst,eq0,_,rfl,q0.p,_,rfl,SqT.of (P7.pr q0 mq0).p_,(fun h => absurd (show (1 : Nat) = 2 from h.2) (by decide)),fun t8 n8 => ?_⟩
      have f8 : (upd H7 t8 (.tup (cutV [.ref q0.x,.ref q0.y] none (some 1)))) t8 = some (.tup [.ref q0.x]) := upd_same
      have s8 : Same H7 (upd H7 t8 (.tup (cutV [.ref q0.x,.ref q0.y] none (some 1)))) := Same.new n8
      generalize upd H7 t8 (.tup (cutV [.ref q0.x,.ref q0.y] none (some 1))) = H8 at f8 s8 ⊢
      refine ⟨sz (by simp),fun l9 H9 s9 f9 n9 => ?_⟩
      have S8 := s4.trans (s5.trans (s6.trans (s7.trans s8)))
      have S9 := S8.trans s9
      have p9 := p3.same S9
      have m9 := Pot.ne (p3.same S8) n9
      refine ⟨_,rfl,p,_,_,rfl,p9,by omega,⟨by decide,by decide⟩,fun r10 H10 a10 b10' b10_ p10 => ?_⟩
      refine menu (b10_ _ _ m9 f9) a10 b10' fun v hv => ?_
      have P10 := prs_but (P3.mono S9) b10_ p9 np
      refine ⟨_,rfl,_,rfl,l1,_,_,_,rfl,rfl,P10.lst,hix,fun H11 u11 => ?_⟩
      have tt : SameT H9 H11 := fun b zs e => u11.t b zs (b10_.t p9 b zs e)
      have Q11 := (P10.pr q0 mq0).t u11.t
      obtain ⟨ds,rds,hds,sds⟩ := rq_pr Q11
      have n41 : t4 ≠ l1 := fun z => by rw [z,P3.lst] at n4; cases n4
      obtain ⟨it,no⟩ : It H11 v ∧ pairV n m H11 v = false := by
        simp only [List.mem_cons,List.not_mem_nil,or_false] at hv
        rcases hv with rfl | rfl | rfl | rfl | rfl
        · have h := u11.at n41 (b10_ _ _ (Pot.ne p3 n4) ((s5.trans (s6.trans (s7.trans (s8.trans s9)))) _ _ f4))
          exact ⟨it_lst h rds (sdw (Sd.list sds) (by decide) (by rw [hds]; decide)),no_lst h⟩
        · have h : H11 t7 = some (.tup [.ref q0.x,.ref q0.y,.ref t5]) := tt _ _ ((s8.trans s9) _ _ f7)
          have h5 := tt _ _ ((s6.trans (s7.trans (s8.trans s9))) _ _ f5)
          obtain ⟨d5,r5,sd5⟩ := rq_two h5 (by decide) (by decide)
          obtain ⟨dx,rx,sx⟩ := rq_two Q11.x_ Q11.ba Q11.bb
          obtain ⟨dy,ry,sy⟩ := rq_two Q11.y_ Q11.bc Q11.bd
          refine ⟨it_tup h (fun y hy => ?_) (.cons rx (.cons ry (.cons r5 .nil))) (sdw (Sd.tuple (n := 2) (k := 300) fun d hd => ?_) (by decide) (by simp)),by simp only [pairV,h]⟩
          · simp only [List.mem_cons,List.not_mem_nil,or_false] at hy
            rcases hy with rfl | rfl | rfl
            · exact th_two Q11.x_
            · exact th_two Q11.y_
            · exact th_two h5
          · simp only [List.mem_cons,List.not_mem_nil,or_false] at hd
            rcases hd with rfl | rfl | rfl
            · exact sx
            · exact sy
            · exact sd5
        · have h := tt _ _ (s9 _ _ f8)
          obtain ⟨dx,rx,sx⟩ := rq_two Q11.x_ Q11.ba Q11.bb
          refine ⟨it_tup h (fun y hy => ?_) (.cons rx .nil) (sdw (Sd.tuple (n := 2) (k := 300) fun d hd => ?_) (by decide) (by simp)),by simp only [pairV,h]⟩
          · rw [List.mem_singleton.mp hy]
            exact th_two Q11.x_
          · rw [List.mem_singleton.mp hd]
            exact sx
        · exact ⟨it_sc .non (fun a z => nomatch z) .non ⟨rfl,by decide,by decide +kernel⟩,rfl⟩
        · exact ⟨it_sc (.str _) (fun a z => nomatch z) (.str _) ⟨rfl,by decide,by decide +kernel⟩,rfl⟩
      exact fin l1 _ _ H11 (none_set u11.now ha hp2 (fun z hz => (P10.pr z hz).t u11.t) it no) (but_upd (B3.trans ((But.of S9).trans b10_)) u11 n1)
    refine ⟨_,rfl,rfl,_,rfl,ite3 (fun c4 => ?_) (fun c4 => ?_)⟩
    · refine ⟨sz (by simp),fun t4 H4 s4 f4 n4 => ?_⟩
      refine fun t5 n5 => ?_
      have f5 : (upd H4 t5 (.dK [])) t5 = some (.dK []) := upd_same
      have s5 : Same H4 (upd H4 t5 (.dK [])) := Same.new n5
      generalize upd H4 t5 (.dK []) = H5 at f5 s5 ⊢
      have P5 := (P3.mono s4).mono s5
      refine ⟨_,rfl,l1,_,rfl,.inl ⟨SqL.of P5.lst,fun t6 n6 => ?_⟩⟩
      have f6 : (upd H5 t6 (.tup (prs ps))) t6 = some (.tup (prs ps)) := upd_same
      have s6 : Same H5 (upd H5 t6 (.tup (prs ps))) := Same.new n6
      generalize upd H5 t6 (.tup (prs ps)) = H6 at f6 s6 ⊢
      refine fun t7 n7 => ⟨_,rfl,upd_same,[(.inr (Str.ofString "walk"),.ref l1)],rfl,by simp,?_⟩
      rw [upd_upd]
      have f7 : (upd H6 t7 (.dK (mergeK [] [(.inr (Str.ofString "walk"),.ref l1)]))) t7 = some (.dK [(.inr (Str.ofString "walk"),.ref l1)]) := upd_same
      have s7 : Same H6 (upd H6 t7 (.dK (mergeK [] [(.inr (Str.ofString "walk"),.ref l1)]))) := Same.new n7
      generalize upd H6 t7 (.dK (mergeK [] [(.inr (Str.ofString "walk"),.ref l1)])) = H7 at f7 s7 ⊢
      refine ⟨_,rfl,sz (by simp),fun t8 H8 s8 f8 n8 => ?_⟩
      refine ⟨sz (by simp),fun l9 H9 s9 f9 n9 => ?_⟩
      have S8 := s4.trans (s5.trans (s6.trans (s7.trans s8)))
      have S9 := S8.trans s9
      have p9 := p3.same S9
      refine ⟨_,rfl,p,_,_,rfl,p9,by omega,⟨by decide,by decide⟩,fun r10 H10 a10 b10' b10_ p10 => ?_⟩
      refine menu (b10_ _ _ (Pot.ne (p3.same S8) n9) f9) a10 b10' fun v hv => ?_
      refine q v H10 ?_ (B3.trans ((But.of S9).trans b10_))
      have P10 := prs_but (P3.mono S9) b10_ p9 np
      have pi : ∀ z ∈ prs ps,It H10 z := fun z hz => by
        obtain ⟨q',hq',rfl⟩ := List.mem_map.mp hz
        exact pr_it (P10.pr q' hq')
      obtain ⟨ds,rds,hds,sds⟩ := its_rqs pi
      rw [prs_len] at hds
      have hm : (1000 + 2) * ds.length + 3 ≤ 60123 := by
        have : (1000 + 2) * ds.length ≤ 1002 * 60 := Nat.mul_le_mul_left _ (by omega)
        omega
      have sdl : Sd 5 60123 (.list ds) := (Sd.list sds).wide (by decide) hm
      have rl : Rq H10 (.ref l1) (.list ds) := .lst P10.lst rds
      simp only [List.mem_cons,List.not_mem_nil,or_false] at hv
      rcases hv with rfl | rfl | rfl | rfl | rfl | rfl | rfl | rfl
      · exact ⟨rfl,⟨⟨_,.non⟩,fun q xs e => nomatch e⟩,_,.non,⟨rfl,by decide,by decide +kernel⟩⟩
      · exact none_list (b10_ _ _ (Pot.ne p3 n4) ((s5.trans (s6.trans (s7.trans (s8.trans s9)))) _ _ f4)) (by simp) (fun y hy => nomatch hy) (.inl rfl)
      · exact ⟨rfl,⟨⟨_,.str _⟩,fun q xs e => nomatch e⟩,_,.str _,⟨rfl,by decide,by decide +kernel⟩⟩
      · exact ⟨rfl,⟨⟨_,.int _⟩,fun q xs e => nomatch e⟩,_,.int _,(Sd.int (by decide)).wide (by decide) (by decide)⟩
      · have h := b10_ _ _ (Pot.ne (p3.same s4) n5) ((s6.trans (s7.trans (s8.trans s9))) _ _ f5)
        exact ⟨by simp only [pairsV,h],⟨⟨_,.dict h⟩,fun q xs e1 e2 => by cases e1; rw [h] at e2; cases e2⟩,_,.dic h .nil,⟨rfl,by decide,by decide +kernel⟩⟩
      · have h := b10_.t p9 _ _ ((s7.trans (s8.trans s9)) _ _ f6)
        exact ⟨by simp only [pairsV,h],⟨⟨_,.tup h⟩,fun q xs e1 e2 => by cases e1; rw [h] at e2; cases e2⟩,_,.tup h rds,(Sd.tuple sds).wide (by decide) (by omega)⟩
      · have h := b10_ _ _ (Pot.ne (p3.same (s4.trans (s5.trans s6))) n7) ((s8.trans s9) _ _ f7)
        refine ⟨by simp only [pairsV,h],⟨⟨_,.dict h⟩,fun q xs e1 e2 => by cases e1; rw [h] at e2; cases e2⟩,_,.dic h (.cons rl .nil),sd_dict sdl⟩
      · have h := b10_ _ _ (Pot.ne (p3.same (s4.trans (s5.trans (s6.trans s7)))) n8) (s9 _ _ f8)
        refine ⟨by simp only [pairsV,h,List.all_cons,no_lst P10.lst]; rfl,⟨⟨_,.lst h⟩,fun q xs e1 e2 => ?_⟩,_,.lst h (.cons rl .nil),(Sd.list (n := 5) (k := 60123) fun d hd => ?_).wide (by decide) (by simp)⟩
        · cases e1
          rw [h] at e2
          cases e2
          refine ⟨by simp,fun y hy => ?_⟩
          rw [List.mem_singleton.mp hy]
          exact ⟨⟨_,.lst P10.lst⟩,fun q zs e3 e4 => by cases e3; rw [P10.lst] at e4; cases e4⟩
        · rw [List.mem_singleton.mp hd]
          exact sdl
    refine ⟨_,rfl,rfl,_,rfl,ite3 (fun c5 => ?_) (fun c5 => ?_)⟩
    · refine ⟨_,rfl,.inl ⟨rfl,_,SqL.of P3.lst⟩,_,rfl,?_⟩
      refine ⟨sz (by simp),fun t4 H4 s4 f4 n4 => ?_⟩
      refine ⟨sz (by simp),fun t5 H5 s5 f5 n5 => ?_⟩
      refine ⟨sz (by simp),fun t6 H6 s6 f6 n6 => ?_⟩
      have S6 := s4.trans (s5.trans s6)
      have p6 := p3.same S6
      have m6 := Pot.ne (p3.same (s4.trans s5)) n6
      refine ⟨_,rfl,p,_,_,rfl,p6,by omega,⟨by decide,by decide⟩,fun r7 H7 a7 b7' b7 p7 => ?_⟩
      refine menu (b7 _ _ m6 f6) a7 b7' fun v hv => ?_
      have P7 := prs_but (P3.mono S6) b7 p6 np
      refine ⟨l1,_,_,_,rfl,rfl,P7.lst,⟨a2,by rw [prs_len]; omega⟩,by rw [prs_len]; omega,fun H8 u8 => ?_⟩
      have g5 := b7 _ _ (Pot.ne (p3.same s4) n5) (s6 _ _ f5)
      have n51 : t5 ≠ l1 := fun z => by rw [z,s4 _ _ P3.lst] at n5; cases n5
      obtain ⟨it,no⟩ : It H8 v ∧ pairV n m H8 v = false := by
        simp only [List.mem_cons,List.not_mem_nil,or_false] at hv
        rcases hv with rfl | rfl | rfl
        · have h8 := u8.t _ _ (b7.t p6 _ _ ((s5.trans s6) _ _ f4))
          exact ⟨it_tup h8 (fun y hy => nomatch hy) .nil (sdw (Sd.tuple (n := 0) (k := 0) fun d hd => nomatch hd)),by simp only [pairV,h8]⟩
        · have h8 := u8.at n51 g5
          exact ⟨it_lst h8 .nil (sdw (Sd.list (n := 0) (k := 0) fun d hd => nomatch hd)),no_lst h8⟩
        · exact ⟨it_sc .non (fun a z => nomatch z) .non ⟨rfl,by decide,by decide +kernel⟩,rfl⟩
      refine fin l1 _ _ H8 (none_list u8.now ?_ (fun y hy => ?_) (.inr ⟨v,by simp,no⟩)) (but_upd (B3.trans ((But.of S6).trans b7)) u8 n1)
      · simp
        rw [prs_len]
        omega
      · simp only [List.mem_append,List.mem_singleton] at hy
        have pi : ∀ z ∈ prs ps,It H8 z := fun z hz => by
          obtain ⟨q',hq',rfl⟩ := List.mem_map.mp hz
          exact pr_it ((P7.pr q' hq').t u8.t)
        rcases hy with (hy | rfl) | hy
        · exact pi y (List.mem_of_mem_take hy)
        · exact it
        · exact pi y (List.mem_of_mem_drop hy)
    · refine ⟨_,rfl,_,rfl,l1,_,_,_,rfl,rfl,SqL.of P3.lst,eq0,q0.p,_,_,_,rfl,rfl,SqT.of Q3.p_,rfl,?_⟩
      refine ⟨_,rfl,_,rfl,l1,_,_,_,rfl,rfl,SqL.of P3.lst,eq0,q0.p,_,_,_,rfl,rfl,SqT.of Q3.p_,rfl,q0.y,_,rfl,.inr (SqT.of Q3.y_),fun t4 H4 s4 f4 n4 => ?_⟩
      refine ⟨sz (by simp),fun t5 H5 s5 f5 n5 => ?_⟩
      refine ⟨_,rfl,_,rfl,l1,_,_,_,rfl,rfl,((P3.mono s4).mono s5).lst,hix,fun H6 u6 => ?_⟩
      have P5 := (P3.mono s4).mono s5
      have n41 : t4 ≠ l1 := fun z => by rw [z,P3.lst] at n4; cases n4
      have h4 := u6.at n41 (s5 _ _ f4)
      have h5 := u6.t _ _ f5
      have Q6 := (P5.pr q0 mq0).t u6.t
      have th4 : Thing H6 (.ref t4) := ⟨⟨_,.lst h4⟩,fun q xs e1 e2 => by cases e1; rw [h4] at e2; cases e2⟩
      have rq4 : ∃ d,Rq H6 (.ref t4) d ∧ Sd 2 300 d := by
        refine ⟨_,.lst h4 (.cons (.int _) (.cons (.int _) .nil)),(Sd.list (n := 0) (k := 81) fun d hd => ?_).wide (by decide) (by simp)⟩
        simp only [List.mem_cons,List.not_mem_nil,or_false] at hd
        rcases hd with rfl | rfl
        · exact Sd.int (b10 Q3.bc (by decide))
        · exact Sd.int (b10 Q3.bd (by decide))
      exact fin l1 _ _ H6 (none_set u6.now ha hp2 (fun z hz => (P5.pr z hz).t u6.t) (it_two h5 (th_two Q6.x_) th4 (rq_two Q6.x_ Q6.ba Q6.bb) rq4) (by rw [pairV_tup h5,show placeV m H6 (.ref t4) = false by simp only [placeV,h4],Bool.and_false])) (but_upd (B3.trans ((But.of s4).trans (But.of s5))) u6 n1)
theorem S_law : FnScope ["script","one","other","n","m","cell","pot","way","pairs","thing","kept"] ["script"] (defScope (top 101)) := ⟨rfl,rfl,rfl,by decide +kernel,rfl,by decide +kernel,by decide +kernel⟩
theorem fn_law (D_law : Df K mg "law" (top 101)) {o : Obj} (SM : K.lookup sysModules = some o) (F_law_lines : Fn P w K mg base "_law_lines" ["script"] 5 (spLines K)) (F_law_folded : Fn P w K mg base "_law_folded" ["cells","many"] 1 spFolded) (F_law_begun : Fn P w K mg base "_law_begun" ["cell"] 1 Dr.spBegun) (F_law_drawn_way : Fn P w K mg base "_law_drawn_way" ["pot"] 2 spDWay) (F_law_drawn_walk : Fn P w K mg base "_law_drawn_walk" ["pot","n","m","way"] 5 spDWalk) (F_law_drawn_fence : Fn P w K mg base "_law_drawn_fence" ["pot","n","m","way"] 6 spDFence) (F_law_none : Fn P w K mg base "_law_none" ["pot","pairs","n","m"] 4 spNone) (F_law_refused : Fn P w K mg base "_law_refused" ["one","other","thing","way","fences"] 9 spRefd) (F_is_walk : Fx P w K mg base "is_walk" ["one","other","thing","way"] 7 [.str "on"] spNot) (F_is_fence : Fx P w K mg base "is_fence" ["one","other","thing","way"] 7 [.str "on"] spNot) (F_law_take : Fn P w K mg base "_law_take" ["pot","size"] 1 Dr.spTk) (T : Txt mg) : Fn P w K mg base "law" ["script"] 10 (spLaw K) := by
  refine D_law.fn S_law (fun _ _ _ _ _ _ us hl => by obtain ⟨_,rfl⟩ := len1 hl; rfl) (fun vs H Q E h => ?_) (fun f cdv A outer s H vs Q E hr h => ?_)
  · obtain ⟨sa,ss,rfl,_⟩ := h
    rfl
  · obtain ⟨sa,ss,rfl,hS,hlen,fin⟩ := h
    refine ⟨_,(pss_cons (ps_asg (pe_fn F_law_lines (hr.mono (by decide)) (by rfl) (pa_cons (pv 0) pa_nil)) (pg_tup rfl (pgs_cons (pg_name (i := 1) S_law.nd rfl (Or.inl rfl)) (pgs_cons (pg_name (i := 2) S_law.nd rfl (Or.inl rfl)) pgs_nil)))) (pss_cons (ps_set (i := 3) S_law.nd rfl (Or.inl rfl) (pe_op op_sub (pe_callB call_len_seq (by rfl) T.z_len bt_len (pa_cons (pv 1) pa_nil)) pe_int)) (pss_cons (ps_set (i := 4) S_law.nd rfl (Or.inl rfl) (pe_op op_sub (pe_callB call_len_seq (by rfl) T.z_len bt_len (pa_cons (pv 2) pa_nil)) pe_int)) (pss_cons (ps_for PassesOwn.never rfl (pi_list (pe_fn F_law_folded (hr.mono (by decide)) (by rfl) (pa_cons (pe_slice sl_listA (pv 0) (po_some pe_int) po_none) (pa_cons pe_int pa_nil)))) (pg_name (i := 5) S_law.nd rfl (Or.inl rfl)) (pss_cons (ps_set (i := 6) S_law.nd rfl (Or.inl rfl) (pe_fn F_law_begun (hr.mono (by decide)) (by rfl) (pa_cons (pv 5) pa_nil))) (pss_cons (ps_set (i := 7) S_law.nd rfl (Or.inl rfl) (pe_fn F_law_drawn_way (hr.mono (by decide)) (by rfl) (pa_cons (pv 6) pa_nil))) (pss_cons (ps_set (i := 8) S_law.nd rfl (Or.inl rfl) (pe_ix ix_list (pe_lstA (pa_cons (pe_fn F_law_drawn_walk (hr.mono (by decide)) (by rfl) (pa_cons (pv 6) (pa_cons (pv 3) (pa_cons (pv 4) (pa_cons (pv 7) pa_nil))))) (pa_cons (pe_fn F_law_drawn_fence (hr.mono (by decide)) (by rfl) (pa_cons (pv 6) (pa_cons (pv 3) (pa_cons (pv 4) (pa_cons (pv 7) pa_nil))))) pa_nil))) (pe_fn F_law_take (hr.mono (by decide)) (by rfl) (pa_cons (pv 6) (pa_cons pe_int pa_nil))) (fun _ _ => rfl))) (pss_cons (ps_set (i := 9) S_law.nd rfl (Or.inl rfl) (pe_fn F_law_none (hr.mono (by decide)) (by rfl) (pa_cons (pv 6) (pa_cons (pv 8) (pa_cons (pv 3) (pa_cons (pv 4) pa_nil)))))) (pss_cons (ps_set (i := 10) S_law.nd rfl (Or.inl rfl) (pe_callTy (call_strD SM hr.gd hr.units) (by rfl) T.z_str bt_str (pa_cons (pv 9) pa_nil))) (pss_cons (ps_if (pw_or (pt_cmpR op_isnotB (pe_fx0 F_is_walk (hr.mono (by decide)) (by rfl) (pa_cons (pv 1) (pa_cons (pv 2) (pa_cons (pv 9) (pa_cons (pv 7) pa_nil))))) pe_bl (nomark _)) (pw_or1 (pt_cmpR op_isnotB (pe_fx0 F_is_fence (hr.mono (by decide)) (by rfl) (pa_cons (pv 1) (pa_cons (pv 2) (pa_cons (pv 9) (pa_cons (pv 7) pa_nil))))) pe_bl (nomark _)))).pt (pss_one (ps_ret pe_bl)) pss_nil) (pss_cons (ps_if (pw_or (pt_not (pt_val (pe_fn F_law_refused (hr.mono (by decide)) (by rfl) (pa_cons (pv 1) (pa_cons (pv 2) (pa_cons (pv 9) (pa_cons (pv 7) (pa_cons pe_bl pa_nil)))))))) (pw_or1 (pt_not (pt_val (pe_fn F_law_refused (hr.mono (by decide)) (by rfl) (pa_cons (pv 1) (pa_cons (pv 2) (pa_cons (pv 9) (pa_cons (pv 7) (pa_cons pe_bl pa_nil)))))))))).pt (pss_one (ps_ret pe_bl)) pss_nil) (pss_one (ps_if (pt_cmpR op_ne (pe_callTy (call_strD SM hr.gd hr.units) (by rfl) T.z_str bt_str (pa_cons (pv 9) pa_nil)) (pv 10) (nomark _)) (pss_one (ps_ret pe_bl)) pss_nil)))))))))) (pss_one (ps_ret pe_bl)))))),?_⟩
    refine ⟨_,rfl,sa,ss,rfl,hS,fun t l r qs rs H1 s1 et L1 ⟨h1,h10⟩ R1 ⟨g1,g10⟩ _ _ _ => ?_⟩
    have hql : (qs.map fun (q : Addr × Int × Int) => V.ref q.1).length = qs.length := List.length_map _
    have hrl : (rs.map fun (q : Addr × Int × Int) => V.ref q.1).length = rs.length := List.length_map _
    refine ⟨t,_,rfl,SqT.of et,rfl,_,_,rfl,_,_,rfl,rfl,?_⟩
    refine ⟨_,rfl,l,_,rfl,.inl (SqL.of L1.lst),_,_,rfl,rfl,?_⟩
    refine ⟨_,rfl,r,_,rfl,.inl (SqL.of R1.lst),_,_,rfl,rfl,?_⟩
    have N0 : 0 ≤ (((qs.map fun (q : Addr × Int × Int) => V.ref q.1).length : Nat) : Int) - 1 := by omega
    have N1 : (((qs.map fun (q : Addr × Int × Int) => V.ref q.1).length : Nat) : Int) - 1 ≤ 20 := by omega
    have M0 : 0 ≤ (((rs.map fun (q : Addr × Int × Int) => V.ref q.1).length : Nat) : Int) - 1 := by omega
    have M1 : (((rs.map fun (q : Addr × Int × Int) => V.ref q.1).length : Nat) : Int) - 1 ≤ 20 := by omega
    generalize eN : (((qs.map fun (q : Addr × Int × Int) => V.ref q.1).length : Nat) : Int) - 1 = N at *
    generalize eM : (((rs.map fun (q : Addr × Int × Int) => V.ref q.1).length : Nat) : Int) - 1 = M at *
    refine ⟨_,rfl,_,rfl,sa,_,rfl,s1.seq hS,fun c H2 s2 f2 n2 => ?_⟩
    rw [show (2 : Int) = ((2 : Nat) : Int) from rfl,cut_from] at f2
    refine ⟨c,_,rfl,f2,by rw [List.length_drop]; omega,fun fo zs H3 e3 s3 => ?_⟩
    have L3 := (L1.mono s2).mono s3
    have R3 := (R1.mono s2).mono s3
    refine ⟨fo,rfl,⟨_,SqL.of e3⟩,for_list (K := K) (a := fo) (xs := zs.map V.int) (fun i σ H4 => ∃ z5 z6 z7 z8 z9 z10,σ = [some (.ref sa),some (.ref l),some (.ref r),some (.int N),some (.int M),z5,z6,z7,z8,z9,z10] ∧ Same H3 H4)
      ⟨none,none,none,none,none,none,by rw [← eN,← eM]; rfl,Same.refl _⟩ (fun i σ H4 _ ⟨_,_,_,_,_,_,_,s4⟩ => SqL.of (s4 _ _ e3)) ?_ ?_⟩
    · rintro i x σ H4 hx ⟨z5,z6,z7,z8,z9,z10,rfl,s4⟩
      rw [List.getElem?_map] at hx
      obtain ⟨cc,_,rfl⟩ := Option.map_eq_some_iff.mp hx
      have L4 := L3.mono s4
      have R4 := R3.mono s4
      refine ⟨_,rfl,cc,rfl,fun p H5 s5 n5 p5 => ?_⟩
      refine ⟨_,rfl,p,_,rfl,p5,by decide,fun wy H6 hw b6 p6 => ?_⟩
      refine ⟨_,rfl,_,rfl,_,rfl,_,rfl,p,N,M,_,wy,rfl,p6,by omega,⟨N0,N1⟩,⟨M0,M1⟩,fun l7 ps H7 P7 g7 h7 n7 b7 p7 => ?_⟩
      refine ⟨_,rfl,_,rfl,_,rfl,_,rfl,p,N,M,_,wy,rfl,p7,by omega,⟨N0,N1⟩,⟨M0,M1⟩,fun l8 fs H8 P8 g8 h8 n8 b8 p8 => ?_⟩
      refine ⟨sz (by simp),fun l9 H9 s9 f9 n9 => ?_⟩
      refine ⟨_,rfl,p,_,_,rfl,p8.same s9,by omega,⟨by decide,by decide⟩,fun r10 H10 a10 b10' b10_ p10 => ?_⟩
      refine menu (b10_ _ _ (Pot.ne p8 n9) f9) a10 b10' fun v hv => ?_
      have m7 : l7 ≠ p := Pot.ne p6 n7
      have m8 : l8 ≠ p := Pot.ne p7 n8
      obtain ⟨lq,qs',rfl,PQ,hq1,hq60⟩ : ∃ lq qs',v = .ref lq ∧ PairsAt H10 lq qs' ∧ 1 ≤ qs'.length ∧ qs'.length ≤ 60 := by
        simp only [List.mem_cons,List.not_mem_nil,or_false] at hv
        rcases hv with rfl | rfl
        · exact ⟨l7,ps,rfl,prs_but ((prs_but P7 b8 p7 m7).mono s9) b10_ (p8.same s9) m7,by
            cases ps with
            | nil => exact absurd g7.walk (by simp [walkB])
            | cons a b => simp,h7⟩
        · exact ⟨l8,fs,rfl,prs_but (P8.mono s9) b10_ (p8.same s9) m8,by
            cases fs with
            | nil => exact absurd g8.fence (by simp [fenceB])
            | cons a b => simp,h8⟩
      have B10 : But p H5 H10 := b6.trans (b7.trans (b8.trans ((But.of s9).trans b10_)))
      refine ⟨_,rfl,_,rfl,_,rfl,_,rfl,p,lq,N,M,_,qs',rfl,p10,by omega,PQ,⟨hq1,hq60⟩,⟨N0,N1⟩,⟨M0,M1⟩,fun th H11 nt b11 => ?_⟩
      have B11 := B10.trans b11
      obtain ⟨d,rq,sd⟩ := nt.rq
      have sh : ShwOk d := ⟨sd.ok,Nat.le_trans sd.dp (by decide),Nat.le_trans sd.sz (by rw [sizeLine_eq]; decide)⟩
      have L11 := L4.mono (B11.same s5 n5)
      have R11 := R4.mono (B11.same s5 n5)
      have no : pairsV (((qs.map fun (q : Addr × Int × Int) => V.ref q.1).length : Int) - 1) (((rs.map fun (q : Addr × Int × Int) => V.ref q.1).length : Int) - 1) H11 th = false := by rw [eN,eM]; exact nt.no
      refine ⟨_,rfl,th,d,rfl,rq,sh,?_⟩
      refine ⟨_,rfl,_,rfl,_,rfl,_,rfl,l,r,_,_,th,wy,rfl,⟨L11.lst,by rw [hql]; omega⟩,⟨R11.lst,by rw [hrl]; omega⟩,nt.th,hw,no,fun H12 s12 => ?_⟩
      refine ⟨_,_,rfl,rfl,_,rfl,iteFalse (by decide) ?_⟩
      have nx : ∀ {H' : Hp},Same H11 H' → pairsV (((qs.map fun (q : Addr × Int × Int) => V.ref q.1).length : Int) - 1) (((rs.map fun (q : Addr × Int × Int) => V.ref q.1).length : Int) - 1) H' th = false := fun s => by rw [pairsV_same0 nt.th s]; exact no
      have Ln : ∀ {H' : Hp},Same H11 H' → H' l = some (.lst (qs.map fun (q : Addr × Int × Int) => V.ref q.1)) ∧ (qs.map fun (q : Addr × Int × Int) => V.ref q.1).length ≤ 100 := fun s => ⟨(L11.mono s).lst,by rw [hql]; omega⟩
      have Rn : ∀ {H' : Hp},Same H11 H' → H' r = some (.lst (rs.map fun (q : Addr × Int × Int) => V.ref q.1)) ∧ (rs.map fun (q : Addr × Int × Int) => V.ref q.1).length ≤ 100 := fun s => ⟨(R11.mono s).lst,by rw [hrl]; omega⟩
      refine ⟨_,rfl,_,rfl,_,rfl,_,rfl,l,r,_,_,th,wy,rfl,Ln s12,Rn s12,nt.th.mono s12,hw,nx s12,fun H13 s13 => ?_⟩
      have S13 := s12.trans s13
      refine ⟨_,_,rfl,rfl,_,rfl,iteFalse (by decide) ?_⟩
      refine ⟨_,rfl,_,rfl,_,rfl,_,rfl,l,r,_,_,th,wy,false,rfl,Ln S13,Rn S13,nt.th.mono S13,hw,nx S13,fun H14 s14 => ⟨_,rfl,iteFalse (by decide) ?_⟩⟩
      have S14 := S13.trans s14
      refine ⟨_,rfl,_,rfl,_,rfl,_,rfl,l,r,_,_,th,wy,true,rfl,Ln S14,Rn S14,nt.th.mono S14,hw,nx S14,fun H15 s15 => ⟨_,rfl,iteFalse (by decide) ?_⟩⟩
      have S15 := S14.trans s15
      refine ⟨_,rfl,th,d,rfl,rq.mono S15,sh,_,rfl,rfl,_,rfl,iteFalse (by simp) ?_⟩
      exact ⟨_,_,_,_,_,_,rfl,s4.trans ((B11.trans (But.of S15)).same s5 n5)⟩
    · rintro σ H4 ⟨z5,z6,z7,z8,z9,z10,rfl,s4⟩
      exact fin _
end
theorem hLeft : PySem.W.LeftO PySem.Challenge.rw_oneleash_k18_what_is_none.prog hView hLoose (fun _ => true) (PySem.W.Hook.obs (Hd.hook hFacts hGood)) (PySem.W.Hook.val (Hd.hook hFacts hGood)) 100000 := hAll
theorem all_of {P : Program} {w : World} {K : PySem.W.Frag} (FK : hFacts K = hGood) {h : Heap} {mg : Str → Option Value} {fa : Addr} (X : K.In h) (G : h.Ns mainGlobals mg) (hfa : mg "law" = some (.ref fa)) :
    ∃ fd : FuncData,(∀ (s : Shared) (v : Value),BindsTo s fd ⟨[v],[]⟩ [("script",v)]) ∧ ∀ base : Heap,K.In base → base.Ns mainGlobals mg → FnOk P w K mg base CX0 10 fa fd ["script"] (spLaw K) := by
  have H0 : (hNames0.map (fun p => Hd.fnFact K p.1) : List (Option (Arguments × List Stmt × Scope × Value))) = hNames0.map (fun p => some (defArgs (top p.2),defBody (top p.2),defScope (top p.2),.none)) := (congrArg Prod.fst FK)
  have H1 : (hNames1.map (fun p => Hd.fnFact K p.1) : List (Option (Arguments × List Stmt × Scope × Value))) = hNames1.map (fun p => some (defArgs (top p.2),defBody (top p.2),defScope (top p.2),.none)) := (congrArg Prod.fst (congrArg Prod.snd FK))
  have H2 : (hNames2.map (fun p => Hd.fnFact K p.1) : List (Option (Arguments × List Stmt × Scope × Value))) = hNames2.map (fun p => some (defArgs (top p.2),defBody (top p.2),defScope (top p.2),.none)) := (congrArg Prod.fst (congrArg Prod.snd (congrArg Prod.snd FK)))
  have H3 : (hNamesD.map (fun p => Hd.fnFactD K p.1) : List (Option (Arguments × List Stmt × Scope × List V))) = hNamesD.map (fun p => some (defArgs (top p.2.1),defBody (top p.2.1),defScope (top p.2.1),p.2.2)) := (congrArg Prod.fst (congrArg Prod.snd (congrArg Prod.snd (congrArg Prod.snd FK))))
  have H4 : (hExc.all (Hd.excFact K) : Bool) = true := (congrArg Prod.fst (congrArg Prod.snd (congrArg Prod.snd (congrArg Prod.snd (congrArg Prod.snd FK)))))
  have H5 : (hNo.all (Hd.noFact K) : Bool) = true := (congrArg Prod.fst (congrArg Prod.snd (congrArg Prod.snd (congrArg Prod.snd (congrArg Prod.snd (congrArg Prod.snd FK))))))
  have H6 : (hTup.map (fun p => Hd.tupFact K p.1) : List (Option (List V))) = hTup.map (fun p => some p.2) := (congrArg Prod.fst (congrArg Prod.snd (congrArg Prod.snd (congrArg Prod.snd (congrArg Prod.snd (congrArg Prod.snd (congrArg Prod.snd FK)))))))
  have H7 : (hNamesA.map (fun p => Hd.fnFactA K p.1 p.2.1) : List (Option (Arguments × List Stmt × Scope × Value))) = hNamesA.map (fun p => some (defArgs (top p.2.2),defBody (top p.2.2),defScope (top p.2.2),.none)) := (congrArg Prod.fst (congrArg Prod.snd (congrArg Prod.snd (congrArg Prod.snd (congrArg Prod.snd (congrArg Prod.snd (congrArg Prod.snd (congrArg Prod.snd FK))))))))
  have H8 : (hEq0 K : List (Option Bool)) = hVal0 := (congrArg Prod.fst (congrArg Prod.snd (congrArg Prod.snd (congrArg Prod.snd (congrArg Prod.snd (congrArg Prod.snd (congrArg Prod.snd (congrArg Prod.snd (congrArg Prod.snd FK)))))))))
  have H9 : (hEq1 K : List (Option (Option Value))) = hVal1 := (congrArg Prod.fst (congrArg Prod.snd (congrArg Prod.snd (congrArg Prod.snd (congrArg Prod.snd (congrArg Prod.snd (congrArg Prod.snd (congrArg Prod.snd (congrArg Prod.snd (congrArg Prod.snd FK))))))))))
  have H10 : (hEq2 K : List (Bool)) = hVal2 := (congrArg Prod.snd (congrArg Prod.snd (congrArg Prod.snd (congrArg Prod.snd (congrArg Prod.snd (congrArg Prod.snd (congrArg Prod.snd (congrArg Prod.snd (congrArg Prod.snd (congrArg Prod.snd FK))))))))))
  have D_is_whole : Df K mg "is_whole" (top 11) := Hd.df_of X G (Hd.at_map H0 0 rfl)
  have D_common_divisor : Df K mg "common_divisor" (top 12) := Hd.df_of X G (Hd.at_map H0 1 rfl)
  have D_less : Df K mg "less" (top 18) := Hd.df_of X G (Hd.at_map H0 2 rfl)
  have D_floor_of : Df K mg "floor_of" (top 19) := Hd.df_of X G (Hd.at_map H0 3 rfl)
  have D_number_of_least : Df K mg "number_of_least" (top 20) := Hd.df_of X G (Hd.at_map H0 4 rfl)
  have D_number_of_greatest : Df K mg "number_of_greatest" (top 21) := Hd.df_of X G (Hd.at_map H0 5 rfl)
  have D_is_ratio : Df K mg "is_ratio" (top 22) := Hd.df_of X G (Hd.at_map H0 6 rfl)
  have D_last_of : Df K mg "last_of" (top 24) := Hd.df_of X G (Hd.at_map H0 7 rfl)
  have D_is_place : Df K mg "is_place" (top 26) := Hd.df_of X G (Hd.at_map H0 8 rfl)
  have D_is_pair : Df K mg "is_pair" (top 28) := Hd.df_of X G (Hd.at_map H0 9 rfl)
  have D_are_pairs : Df K mg "are_pairs" (top 29) := Hd.df_of X G (Hd.at_map H0 10 rfl)
  have D_share_a_stretch : Df K mg "share_a_stretch" (top 32) := Hd.df_of X G (Hd.at_map H0 11 rfl)
  have D_square_of : Df K mg "square_of" (top 36) := Hd.df_of X G (Hd.at_map H0 12 rfl)
  have D_look_at_way : Df K mg "look_at_way" (top 41) := Hd.df_of X G (Hd.at_map H0 13 rfl)
  have D_has_whole_places : Df K mg "has_whole_places" (top 60) := Hd.df_of X G (Hd.at_map H0 14 rfl)
  have D_measured_squares : Df K mg "measured_squares" (top 70) := Hd.df_of X G (Hd.at_map H1 0 rfl)
  have D_law_cell_at : Df K mg "_law_cell_at" (top 73) := Hd.df_of X G (Hd.at_map H1 1 rfl)
  have D_law_folded : Df K mg "_law_folded" (top 74) := Hd.df_of X G (Hd.at_map H1 2 rfl)
  have D_law_begun : Df K mg "_law_begun" (top 75) := Hd.df_of X G (Hd.at_map H1 3 rfl)
  have D_law_take : Df K mg "_law_take" (top 76) := Hd.df_of X G (Hd.at_map H1 4 rfl)
  have D_law_wide : Df K mg "_law_wide" (top 77) := Hd.df_of X G (Hd.at_map H1 5 rfl)
  have D_law_drawn_line : Df K mg "_law_drawn_line" (top 78) := Hd.df_of X G (Hd.at_map H1 6 rfl)
  have D_law_moved : Df K mg "_law_moved" (top 79) := Hd.df_of X G (Hd.at_map H1 7 rfl)
  have D_law_drawn_other : Df K mg "_law_drawn_other" (top 80) := Hd.df_of X G (Hd.at_map H1 8 rfl)
  have D_law_lines : Df K mg "_law_lines" (top 81) := Hd.df_of X G (Hd.at_map H1 9 rfl)
  have D_law_divisor : Df K mg "_law_divisor" (top 82) := Hd.df_of X G (Hd.at_map H1 10 rfl)
  have D_law_ratio : Df K mg "_law_ratio" (top 83) := Hd.df_of X G (Hd.at_map H1 11 rfl)
  have D_law_below : Df K mg "_law_below" (top 84) := Hd.df_of X G (Hd.at_map H1 12 rfl)
  have D_law_lesser : Df K mg "_law_lesser" (top 85) := Hd.df_of X G (Hd.at_map H1 13 rfl)
  have D_law_greater : Df K mg "_law_greater" (top 86) := Hd.df_of X G (Hd.at_map H1 14 rfl)
  have D_law_spot_on : Df K mg "_law_spot_on" (top 87) := Hd.df_of X G (Hd.at_map H2 0 rfl)
  have D_law_any : Df K mg "_law_any" (top 88) := Hd.df_of X G (Hd.at_map H2 1 rfl)
  have D_law_ahead : Df K mg "_law_ahead" (top 89) := Hd.df_of X G (Hd.at_map H2 2 rfl)
  have D_law_home : Df K mg "_law_home" (top 90) := Hd.df_of X G (Hd.at_map H2 3 rfl)
  have D_law_drawn_walk : Df K mg "_law_drawn_walk" (top 91) := Hd.df_of X G (Hd.at_map H2 4 rfl)
  have D_law_down : Df K mg "_law_down" (top 92) := Hd.df_of X G (Hd.at_map H2 5 rfl)
  have D_law_over : Df K mg "_law_over" (top 93) := Hd.df_of X G (Hd.at_map H2 6 rfl)
  have D_law_next : Df K mg "_law_next" (top 94) := Hd.df_of X G (Hd.at_map H2 7 rfl)
  have D_law_ended : Df K mg "_law_ended" (top 95) := Hd.df_of X G (Hd.at_map H2 8 rfl)
  have D_law_drawn_fence : Df K mg "_law_drawn_fence" (top 96) := Hd.df_of X G (Hd.at_map H2 9 rfl)
  have D_law_drawn_way : Df K mg "_law_drawn_way" (top 97) := Hd.df_of X G (Hd.at_map H2 10 rfl)
  have D_law_odd : Df K mg "_law_odd" (top 98) := Hd.df_of X G (Hd.at_map H2 11 rfl)
  have D_law_none : Df K mg "_law_none" (top 99) := Hd.df_of X G (Hd.at_map H2 12 rfl)
  have D_law_refused : Df K mg "_law_refused" (top 100) := Hd.df_of X G (Hd.at_map H2 13 rfl)
  have D_law : Df K mg "law" (top 101) := Hd.df_of X G (Hd.at_map H2 14 rfl)
  have D_has_right_ends_walks : DfA K mg "has_right_ends_walks" "has_right_ends" (top 43) := Hd.dfa_of X G (Hd.at_map H7 0 rfl)
  have D_has_right_steps_walks : DfA K mg "has_right_steps_walks" "has_right_steps" (top 50) := Hd.dfa_of X G (Hd.at_map H7 1 rfl)
  have D_has_right_ends_fences : DfA K mg "has_right_ends_fences" "has_right_ends" (top 55) := Hd.dfa_of X G (Hd.at_map H7 2 rfl)
  have D_has_right_steps_fences : DfA K mg "has_right_steps_fences" "has_right_steps" (top 64) := Hd.dfa_of X G (Hd.at_map H7 3 rfl)
  have D_ratio : DfD K mg "ratio" (top 13) [.int 1] := Hd.dfd_of X G (Hd.at_map H3 0 rfl)
  have D_is_walk : DfD K mg "is_walk" (top 52) [.str "on"] := Hd.dfd_of X G (Hd.at_map H3 1 rfl)
  have D_walk_square : DfD K mg "walk_square" (top 53) [.str "on"] := Hd.dfd_of X G (Hd.at_map H3 2 rfl)
  have D_is_fence : DfD K mg "is_fence" (top 66) [.str "on"] := Hd.dfd_of X G (Hd.at_map H3 3 rfl)
  have D_fence_square : DfD K mg "fence_square" (top 71) [.str "on"] := Hd.dfd_of X G (Hd.at_map H3 4 rfl)
  have O_NoRatio : ExcC K mg "NoRatio" (Hd.cls K "NoRatio") := Hd.exc_of X G (Hd.at_all H4 0 rfl)
  have O_NoWay : ExcC K mg "NoWay" (Hd.cls K "NoWay") := Hd.exc_of X G (Hd.at_all H4 1 rfl)
  have O_NoWalk : ExcC K mg "NoWalk" (Hd.cls K "NoWalk") := Hd.exc_of X G (Hd.at_all H4 2 rfl)
  have O_LeashError : ExcC K mg "LeashError" (Hd.cls K "LeashError") := Hd.exc_of X G (Hd.at_all H4 3 rfl)
  have O_NoFence : ExcC K mg "NoFence" (Hd.cls K "NoFence") := Hd.exc_of X G (Hd.at_all H4 4 rfl)
  have O_NoLine : ExcC K mg "NoLine" (Hd.cls K "NoLine") := Hd.exc_of X G (Hd.at_all H4 5 rfl)
  have O_NoPlace : ExcC K mg "NoPlace" (Hd.cls K "NoPlace") := Hd.exc_of X G (Hd.at_all H4 6 rfl)
  have O_NoSquare : ExcC K mg "NoSquare" (Hd.cls K "NoSquare") := Hd.exc_of X G (Hd.at_all H4 7 rfl)
  have O_NoText : ExcC K mg "NoText" (Hd.cls K "NoText") := Hd.exc_of X G (Hd.at_all H4 8 rfl)
  have T : Txt mg := ⟨PySem.W.mg_none_of X G (Hd.no_of (Hd.at_all H5 0 rfl)),PySem.W.mg_none_of X G (Hd.no_of (Hd.at_all H5 1 rfl)),PySem.W.mg_none_of X G (Hd.no_of (Hd.at_all H5 2 rfl)),PySem.W.mg_none_of X G (Hd.no_of (Hd.at_all H5 3 rfl)),PySem.W.mg_none_of X G (Hd.no_of (Hd.at_all H5 4 rfl)),PySem.W.mg_none_of X G (Hd.no_of (Hd.at_all H5 5 rfl)),PySem.W.mg_none_of X G (Hd.no_of (Hd.at_all H5 6 rfl)),PySem.W.mg_none_of X G (Hd.no_of (Hd.at_all H5 7 rfl)),PySem.W.mg_none_of X G (Hd.no_of (Hd.at_all H5 8 rfl)),PySem.W.mg_none_of X G (Hd.no_of (Hd.at_all H5 9 rfl)),PySem.W.mg_none_of X G (Hd.no_of (Hd.at_all H5 10 rfl)),PySem.W.mg_none_of X G (Hd.no_of (Hd.at_all H5 11 rfl)),PySem.W.mg_none_of X G (Hd.no_of (Hd.at_all H5 12 rfl)),PySem.W.mg_none_of X G (Hd.no_of (Hd.at_all H5 13 rfl)),PySem.W.mg_none_of X G (Hd.no_of (Hd.at_all H5 14 rfl)),PySem.W.mg_none_of X G (Hd.no_of (Hd.at_all H5 15 rfl))⟩
  obtain ⟨p_WAYS,od_WAYS,its_WAYS,n_WAYS,sl_WAYS,v_WAYS,w_WAYS,u_WAYS⟩ := Hd.tup_of (Hd.at_map H6 0 rfl)
  have m_NoWalk : PySem.W.exmOne K (.ref (Hd.cls K "NoWalk")) (.ref (Hd.cls K "LeashError")) = some true := Hd.at_two H8 0 rfl rfl
  have if_NoWalk : PySem.W.kitOne K (.ref (Hd.cls K "NoWalk")) (.ref (Hd.cls K "NoFence")) = some false := Hd.at_two H8 1 rfl rfl
  have iw_NoWalk : PySem.W.kitOne K (.ref (Hd.cls K "NoWalk")) (.ref (Hd.cls K "NoWalk")) = some true := Hd.at_two H8 2 rfl rfl
  have iv_NoWalk : PySem.W.kitOne K (.ref (Hd.cls K "NoWalk")) (.type "ValueError") = some true := Hd.at_two H8 3 rfl rfl
  have i2_NoWalk : PySem.W.kitAny K (.ref (Hd.cls K "NoWalk")) [(.ref (Hd.cls K "NoLine")),(.ref (Hd.cls K "NoPlace")),(.ref (Hd.cls K "NoRatio")),(.ref (Hd.cls K "NoSquare")),(.ref (Hd.cls K "NoText")),(.ref (Hd.cls K "NoWay"))] = some false := Hd.at_two H8 4 rfl rfl
  have m_NoFence : PySem.W.exmOne K (.ref (Hd.cls K "NoFence")) (.ref (Hd.cls K "LeashError")) = some true := Hd.at_two H8 5 rfl rfl
  have if_NoFence : PySem.W.kitOne K (.ref (Hd.cls K "NoFence")) (.ref (Hd.cls K "NoFence")) = some true := Hd.at_two H8 6 rfl rfl
  have iw_NoFence : PySem.W.kitOne K (.ref (Hd.cls K "NoFence")) (.ref (Hd.cls K "NoWalk")) = some false := Hd.at_two H8 7 rfl rfl
  have iv_NoFence : PySem.W.kitOne K (.ref (Hd.cls K "NoFence")) (.type "ValueError") = some true := Hd.at_two H8 8 rfl rfl
  have i2_NoFence : PySem.W.kitAny K (.ref (Hd.cls K "NoFence")) [(.ref (Hd.cls K "NoLine")),(.ref (Hd.cls K "NoPlace")),(.ref (Hd.cls K "NoRatio")),(.ref (Hd.cls K "NoSquare")),(.ref (Hd.cls K "NoText")),(.ref (Hd.cls K "NoWay"))] = some false := Hd.at_two H8 9 rfl rfl
  have fa_NoWalk : PySem.W.findIn K (.ref (Hd.cls K "NoWalk")) "__getattribute__" = some (some (.builtin "BaseException.__getattribute__")) := Hd.at_two H9 0 rfl rfl
  have fb_NoWalk : PySem.W.findIn K (.ref (Hd.cls K "NoWalk")) "__getattr__" = some none := Hd.at_two H9 1 rfl rfl
  have fc_NoWalk : PySem.W.findIn K (.ref (Hd.cls K "NoWalk")) "__class__" = some (some (.builtin "object.__class__")) := Hd.at_two H9 2 rfl rfl
  have fa_NoFence : PySem.W.findIn K (.ref (Hd.cls K "NoFence")) "__getattribute__" = some (some (.builtin "BaseException.__getattribute__")) := Hd.at_two H9 3 rfl rfl
  have fb_NoFence : PySem.W.findIn K (.ref (Hd.cls K "NoFence")) "__getattr__" = some none := Hd.at_two H9 4 rfl rfl
  have fc_NoFence : PySem.W.findIn K (.ref (Hd.cls K "NoFence")) "__class__" = some (some (.builtin "object.__class__")) := Hd.at_two H9 5 rfl rfl
  have sm : (K.lookup sysModules).isSome = true := Hd.at_two H10 0 rfl rfl
  refine law_fd h hfa fun base => ?_
  have hW : ∀ H,SqT K H p_WAYS [.str wOn,.str wPart,.str wFree,.str wHops] := fun H => SqT.mod w_WAYS rfl (Hd.vals_sz u_WAYS (by decide)) u_WAYS
  obtain ⟨o,SM⟩ := Option.isSome_iff_exists.mp sm
  have F_is_whole := fn_is_whole (P := P) (w := w) (base := base) D_is_whole T
  have F_common_divisor := fn_common_divisor (P := P) (w := w) (base := base) D_common_divisor T
  have F_is_ratio := fn_is_ratio (P := P) (w := w) (base := base) D_is_ratio F_is_whole F_common_divisor T
  have F_less := fn_less (P := P) (w := w) (base := base) D_less
  have F_floor_of := fn_floor_of (P := P) (w := w) (base := base) D_floor_of
  have F_ratio := fn_ratio (P := P) (w := w) (base := base) D_ratio O_NoRatio F_is_whole F_common_divisor
  have F_last_of := fn_last_of (P := P) (w := w) (base := base) D_last_of T
  have F_is_place := fn_is_place (P := P) (w := w) (base := base) D_is_place F_is_ratio F_last_of
  have F_share_a_stretch := fn_share_a_stretch (P := P) (w := w) (base := base) D_share_a_stretch F_less F_floor_of F_ratio
  have F_law_cell_at := fn_law_cell_at (P := P) (w := w) (base := base) D_law_cell_at T
  have F_law_begun := fn_law_begun (P := P) (w := w) (base := base) D_law_begun T
  have F_law_take := fn_law_take (P := P) (w := w) (base := base) D_law_take
  have F_law_wide := fn_law_wide (P := P) (w := w) (base := base) D_law_wide F_law_take T
  have F_law_drawn_line := fn_law_drawn_line (P := P) (w := w) (base := base) D_law_drawn_line F_law_take F_law_wide T
  have F_look_at_way := fn_look_at_way (P := P) (w := w) (base := base) D_look_at_way O_NoWay (PySem.W.mg_of X G v_WAYS) hW T
  have F_law_moved := fn_law_moved (P := P) (w := w) (base := base) D_law_moved F_law_take T
  have F_law_drawn_other := fn_law_drawn_other (P := P) (w := w) (base := base) D_law_drawn_other F_law_take F_law_moved F_law_drawn_line T
  have F_law_lines := fn_law_lines (P := P) (w := w) (base := base) D_law_lines F_law_cell_at F_law_begun F_law_drawn_line F_law_drawn_other
  have F_law_divisor := fn_law_divisor (P := P) (w := w) (base := base) D_law_divisor T
  have F_law_ratio := fn_law_ratio (P := P) (w := w) (base := base) D_law_ratio F_law_divisor
  have F_law_below := fn_law_below (P := P) (w := w) (base := base) D_law_below
  have F_law_spot_on := fn_law_spot_on (P := P) (w := w) (base := base) D_law_spot_on F_law_take F_law_wide F_law_ratio
  have F_law_any := fn_law_any (P := P) (w := w) (base := base) D_law_any F_law_take F_law_spot_on
  have F_law_ahead := fn_law_ahead (P := P) (w := w) (base := base) D_law_ahead F_law_take F_law_spot_on F_law_below
  have F_law_home := fn_law_home (P := P) (w := w) (base := base) D_law_home T
  have F_law_drawn_walk := fn_law_drawn_walk (P := P) (w := w) (base := base) D_law_drawn_walk F_law_take F_law_any F_law_ahead F_law_home T
  have F_law_lesser := fn_law_lesser (P := P) (w := w) (base := base) D_law_lesser F_law_below
  have F_law_greater := fn_law_greater (P := P) (w := w) (base := base) D_law_greater F_law_below
  have F_law_down := fn_law_down (P := P) (w := w) (base := base) D_law_down F_law_take F_law_spot_on F_law_below T
  have F_law_over := fn_law_over (P := P) (w := w) (base := base) D_law_over F_law_take F_law_spot_on F_law_below T
  have F_law_next := fn_law_next (P := P) (w := w) (base := base) D_law_next F_law_take F_law_any F_law_lesser F_law_greater F_law_down F_law_over
  have F_law_ended := fn_law_ended (P := P) (w := w) (base := base) D_law_ended T
  have F_law_drawn_fence := fn_law_drawn_fence (P := P) (w := w) (base := base) D_law_drawn_fence F_law_take F_law_any F_law_next F_law_ended T
  have F_law_drawn_way := fn_law_drawn_way (P := P) (w := w) (base := base) D_law_drawn_way F_law_take
  have F_law_folded := fn_law_folded (P := P) (w := w) (base := base) D_law_folded T
  have F_is_pair := fn_is_pair (P := P) (w := w) (base := base) D_is_pair F_is_place T
  have F_are_pairs := fn_are_pairs (P := P) (w := w) (base := base) D_are_pairs F_is_pair T
  have F_has_right_ends_walks := fn_has_right_ends_walks (P := P) (w := w) (base := base) D_has_right_ends_walks
  have F_has_right_steps_walks := fn_has_right_steps_walks (P := P) (w := w) (base := base) D_has_right_steps_walks
  have F_has_right_ends_fences := fn_has_right_ends_fences (P := P) (w := w) (base := base) D_has_right_ends_fences
  have F_has_right_steps_fences := fn_has_right_steps_fences (P := P) (w := w) (base := base) D_has_right_steps_fences
  have F_has_whole_places := fn_has_whole_places (P := P) (w := w) (base := base) D_has_whole_places
  have F_square_of := fn_square_of (P := P) (w := w) (base := base) D_square_of
  have F_number_of_greatest := fn_number_of_greatest (P := P) (w := w) (base := base) D_number_of_greatest
  have F_number_of_least := fn_number_of_least (P := P) (w := w) (base := base) D_number_of_least
  have F_measured_squares := fn_measured_squares (P := P) (w := w) (base := base) D_measured_squares
  have F_is_walk := fn_is_walk (P := P) (w := w) (base := base) D_is_walk F_look_at_way F_are_pairs F_has_right_ends_walks F_has_right_steps_walks
  have F_is_fence := fn_is_fence (P := P) (w := w) (base := base) D_is_fence F_look_at_way F_are_pairs F_has_whole_places F_has_right_ends_fences F_has_right_steps_fences T
  have F_walk_square := fn_walk_square (P := P) (w := w) (base := base) D_walk_square O_NoWalk F_is_walk F_square_of F_number_of_greatest T
  have F_fence_square := fn_fence_square (P := P) (w := w) (base := base) D_fence_square O_NoFence F_is_fence F_measured_squares F_number_of_least
  have F_law_refused := fn_law_refused (P := P) (w := w) (base := base) D_law_refused O_LeashError O_NoWalk O_NoFence O_NoLine O_NoPlace O_NoRatio O_NoSquare O_NoText O_NoWay m_NoWalk ⟨fa_NoWalk,fb_NoWalk,fc_NoWalk⟩ if_NoWalk iw_NoWalk iv_NoWalk i2_NoWalk m_NoFence ⟨fa_NoFence,fb_NoFence,fc_NoFence⟩ if_NoFence iw_NoFence iv_NoFence i2_NoFence F_walk_square F_fence_square T
  have F_law_odd := fn_law_odd (P := P) (w := w) (base := base) D_law_odd F_law_wide F_law_take T
  have F_law_none := fn_law_none (P := P) (w := w) (base := base) D_law_none F_law_take F_law_odd T
  exact fn_law D_law SM F_law_lines F_law_folded F_law_begun F_law_drawn_way F_law_drawn_walk F_law_drawn_fence F_law_none F_law_refused F_is_walk F_is_fence F_law_take T
end K18
end
open PySem PySem.W PyProof.Rows
set_option maxRecDepth 100000 in
set_option maxHeartbeats 0 in
theorem PySem.Challenge.cw_oneleash_k18_what_is_none_holds : PySem.Challenge.rw_oneleash_k18_what_is_none.Holds := by
  w_on; o_law
  refine holds_open (q := K18.hView) (loose := K18.hLoose) (Xt := fun _ => true) (XP := fun _ _ => True) (Yf := Hook.obs (Hd.hook K18.hFacts K18.hGood)) (Ya := Hook.val (Hd.hook K18.hFacts K18.hGood)) (YP := Hook.says (Hd.hook K18.hFacts K18.hGood)) (N := 100000) K18.hLeft (Hook.of _) (Hook.keeps _) (fun _ _ => trivial) (fun _ _ _ _ _ => trivial) (by rfl) (by rfl) (by rfl) (fun _ _ => recFacts_nil rfl) (by rfl) (by first | assumption | decide +kernel) (by decide +kernel) ⟨rfl,rfl,rfl,rfl,rfl,by decide +kernel⟩ ?hw ?hc
  case hw => w_witness2
  exact Hd.law_walk (l := PySem.Challenge.rw_oneleash_k18_what_is_none) (k := 10) ⟨rfl,by decide,by decide,rfl⟩ rfl rfl fun K FK w mg fa h KX G hmg => K18.all_of FK KX G hmg
